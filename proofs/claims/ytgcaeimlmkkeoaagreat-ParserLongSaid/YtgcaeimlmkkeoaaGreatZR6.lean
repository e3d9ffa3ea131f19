/-
  CONTRACT: the reference's reader: primary.
-/
import Derived.Test.YtgcaeimlmkkeoaaGreatZR5
import Derived.Test.YtgcaeimlmkkeoaaGreatZA8
set_option linter.unusedSimpArgs false
set_option linter.unusedVariables false
namespace Go.Proofs.YtgcaeimlmkkeoaaGreat
open Go Go.RowKit
theorem after_fail {α : Type} (σ : Except Nat Nat) : after (failM : PM α) σ = .error (badOf σ) := by cases σ <;> rfl
theorem Due.postF {r : Rdr} {P : PM Tree} {σ0 σ : Except Nat Nat} {s : Bool} {w W : World} {q : Raw} {t : Tree} (h : Due P σ0 failM σ) (hist : IsT (fun b => w.heap.size ≤ b) W q t) (hrr : RrAt r (.error (badOf σ)) s W) (hmv : Mv r w W) : RrPost r P σ0 s w (.returned (.agg (ndC q))) W :=
 h.post (fun i x j e hx => by subst e; cases hx) hist (by rw [after_fail]; exact hrr) hmv
theorem TokBox.on {r : Rdr} {w0 : World} {g : Nat} {x : Lx.Tok} {W W' : World} (h : TokBox r w0 g x W) (hm : Mv r W W') : TokBox r w0 g x W' := h.mvB hm h.old
theorem InvX.tok {r : Rdr} {w0 wr W : World} {ob : Option Nat} {g : Nat} {x : Lx.Tok} (h : InvX r w0 ob wr W) (hb : TokBox r w0 g x wr) (hg : ob ≠ some g) : TokBox r w0 g x W :=
 ⟨by rw [h.block g (lt_heap hb.z) (by have := hb.new; have := hb.old; omega) hg]; exact hb.z, hb.new, hb.old⟩
section
variable {r : Rdr} {ob : Option Nat} {ic ia k : Nat} {wr : World} {P : Program} {Pn : Ending → World → Prop} {σ : Except Nat Nat} {s : Bool} {p : PM (List Tree)}
/-- the nodes of the rule, and where the reading is behind it -/
def tyCallL (r : Rdr) (wr : World) (p : PM (List Tree)) (σ : Except Nat Nat) (s : Bool) : TyV := ⟨(Option Addr × Nat × Nat) × List Tree, ⟨((none, 0, 0), [])⟩, fun x => .slice x.1.1 x.1.2.1 x.1.2.2, fun x W => IsTs (fun b => wr.heap.size ≤ b) W (.slice x.1.1 x.1.2.1 x.1.2.2) x.2 ∧ RrAt r (after p σ) s W ∧ Got p σ x.2⟩
theorem tyCallL_f (a : Option Addr) (n c : Nat) (l : List Tree) : (tyCallL r wr p σ s).f ((a, n, c), l) = .slice a n c := rfl
theorem tyCallL_good (hr : r.b < wr.heap.size) (ho : ∀ g, ob = some g → r.b < g ∧ g < wr.heap.size) : GoodS (Sx r ob ic ia) ic (tyCallL r wr p σ s) := by
 intro j x w w' hj hs ⟨h1, h2, h3⟩
 refine ⟨Sx.list hs h1 (fun b hb => ⟨by omega, fun e => by have := (ho b e).2; omega⟩), ?_, h3⟩
 unfold Sx at hs
 rw [if_neg hj] at hs
 split at hs
 ·exact h2.grown hs (fun g e => (ho g e).1)
 ·exact h2.mv hs
theorem sx_callL {w0 W : World} {g : FuncId} {args : Array Value} (hI : InvX r w0 ob wr W) (hc : Calls P g args W (RrPostL r p σ s W)) : oneUpon P (Sx r ob ic ia ic) Pn (tyCallL r wr p σ s) W (.ok (.enter g args) W) := by
 refine hc.mono ?_
 rintro e w' ⟨a, n, c, l, rfl, h1, h2, h3, h4⟩
 refine .inl ⟨((a, n, c), l), rfl, ?_, h1.mono (fun b hb => Nat.le_trans hI.size hb), h2, h4⟩
 unfold Sx
 rw [if_pos rfl]
 exact h3
end
def litR (r : Rdr) (x : Lx.Tok) : PM Tree := bindM (takeM r) fun _ => ndM 21 x.text x.at_ []
def primF (r : Rdr) (E Bk Bs : PM Tree) (x : Lx.Tok) : PM Tree := bindM (tookM r ⟨#[105, 102]⟩) fun b => match b with
 | true => bindM E fun c => bindM Bk fun y => bindM (needM r ⟨#[101, 108, 115, 101]⟩) fun _ => bindM Bk fun n => ndM 29 ⟨#[]⟩ x.at_ [c, y, n]
 | false => bindM (isM r ⟨#[123]⟩) fun b => match b with
  | true => Bs
  | false => failM
def primD (r : Rdr) (E Bk Bs : PM Tree) (x : Lx.Tok) : PM Tree := bindM (tookM r ⟨#[40]⟩) fun b => match b with
 | true => bindM E fun e => bindM (needM r ⟨#[41]⟩) fun _ => pureM e
 | false => primF r E Bk Bs x
def primW (r : Rdr) (Ls : PM (List Tree)) (x : Lx.Tok) : PM Tree := bindM (nameM r) fun nm => bindM Ls fun l => ndM 25 nm x.at_ l
def primN (r : Rdr) (Ls : PM (List Tree)) (x : Lx.Tok) : PM Tree := bindM (isM r ⟨#[40]⟩) fun b => match b with
 | true => bindM Ls fun l => ndM 23 x.text x.at_ l
 | false => bindM (tookM r ⟨#[33]⟩) fun b => match b with
  | true => bindM Ls fun l => ndM 24 x.text x.at_ l
  | false => ndM 22 x.text x.at_ []
def primE (r : Rdr) (Ls : PM (List Tree)) (E Bk Bs : PM Tree) (x : Lx.Tok) : PM Tree := bindM (tookM r ⟨#[110, 101, 119]⟩) fun b => match b with
 | true => primW r Ls x
 | false => primD r E Bk Bs x
def primC (r : Rdr) (Ls : PM (List Tree)) (E Bk Bs : PM Tree) (x : Lx.Tok) : PM Tree := if x.kind = 1 then bindM (takeM r) fun _ => primN r Ls x else primE r Ls E Bk Bs x
def primB (r : Rdr) (Ls : PM (List Tree)) (E Bk Bs : PM Tree) (x : Lx.Tok) : PM Tree := if x.kind = 3 then bindM (takeM r) fun _ => ndM 20 x.text x.at_ [] else bindM (isM r ⟨#[116, 114, 117, 101]⟩) fun b => match b with
 | true => litR r x
 | false => bindM (isM r ⟨#[102, 97, 108, 115, 101]⟩) fun b => match b with
  | true => litR r x
  | false => primC r Ls E Bk Bs x
def primR (r : Rdr) (Ls : PM (List Tree)) (E Bk Bs : PM Tree) : PM Tree := bindM (tokM r) fun x => primB r Ls E Bk Bs x
set_option maxRecDepth 100000 in
set_option maxHeartbeats 4000000 in
theorem rPrimary_any (r : Rdr) (σ : Except Nat Nat) (s : Bool) (Ls : PM (List Tree)) (E Bk Bs : PM Tree) (lv : Int) (hlv : 1 ≤ lv ∧ lv ≤ 1000) (w : World) (h : RrAt r σ s w) (hE : EndAt r) (hK : Known r.L) (hI0 : IntAt r) (hL : ∀ σ1 w1, (∃ j, σ = .ok j) → RrAt r σ1 s w1 → Calls Tryz.prog 150 #[.pointer (some ⟨r.b, 0, none⟩), .int .i64 (lv)] w1 (RrPostL r Ls σ1 s w1)) (hX : ∀ σ1 w1, (∃ j, σ = .ok j) → RrAt r σ1 s w1 → Calls Tryz.prog 38 #[.pointer (some ⟨r.b, 0, none⟩), .int .i64 (lv + 1)] w1 (RrPost r E σ1 s w1)) (hB1 : ∀ σ1 w1, (∃ j, σ = .ok j) → RrAt r σ1 s w1 → Calls Tryz.prog 88 #[.pointer (some ⟨r.b, 0, none⟩), .int .i64 (lv + 1)] w1 (RrPost r Bk σ1 s w1)) (hB0 : ∀ σ1 w1, (∃ j, σ = .ok j) → RrAt r σ1 s w1 → Calls Tryz.prog 88 #[.pointer (some ⟨r.b, 0, none⟩), .int .i64 (lv)] w1 (RrPost r Bs σ1 s w1)) :
  Calls Tryz.prog 147 #[.pointer (some ⟨r.b, 0, none⟩), .int .i64 lv] w (RrPost r (primR r Ls E Bk Bs) σ s w) := by
 have HT := Lib.hid (St.start h)
 have HE := Lib.hid hE
 have HK := Lib.hid hK
 have HI0 := Lib.hid hI0
 have HLS := Lib.hid hL
 have HEX := Lib.hid hX
 have HBK := Lib.hid hB1
 have HBS := Lib.hid hB0
 obtain ⟨P, hP⟩ : ∃ P, (primR r Ls E Bk Bs) = P := ⟨_, rfl⟩
 have hd : Due P σ (primR r Ls E Bk Bs) σ := by rw [hP]; exact Due.refl _ _
 rw [hP]
 clear hP
 unfold primR at hd
 have HD := Lib.hid hd
 clear h hE hK hd hI0 hL hX hB1 hB0
 go_enter Tryz.func147, Tryz.ntmps147
 go_wp2_with fail
 generalize w.alloc (.cells #[.int .i64 0, .string ⟨#[]⟩, .int .i64 0, .slice none 0 0] 40) = w1 at *
 refine (next_r r _ s _ HT.out.rr).mono ?_
 rintro e w2 ⟨⟨kd, tx, ax⟩, rfl, hr, hm, hg⟩
 have HGX := Lib.hid hg
 replace HD := Lib.hid (HD.out.step hg)
 replace HT := Lib.hid (HT.out.on hr hm)
 clear hr hm hg
 rw [after_tok] at HT HD
 unfold tkC
 go_wp2_with fail
 have HX : Hid (TokBox r w w2.heap.size ⟨kd, tx, ax⟩ (w2.alloc (.cells #[.int .i64 kd, .string tx, .int .i64 ax] 62))) := ⟨heap_alloc_new w2 _, HT.out.up, HT.out.rb⟩
 have hbx := boxB w2 (.cells #[.int .i64 kd, .string tx, .int .i64 ax] 62)
 replace HT := Lib.hid (HT.out.on (HT.out.rr.below hbx) (Mv.of_below hbx))
 clear hbx
 obtain ⟨g, hg⟩ : ∃ g, w2.heap.size = g := ⟨_, rfl⟩
 rw [hg] at HX ⊢
 generalize w2.alloc (.cells #[.int .i64 kd, .string tx, .int .i64 ax] 62) = w3 at *
 clear hg
 refine (ok_r r _ s _ HT.out.rr).mono ?_
 rintro e w4 ⟨b, rfl, rfl, hb⟩
 rcases hb with ⟨rfl, i, rfl⟩ | ⟨rfl, k, rfl⟩
 rotate_left
 ·clear HX HGX
  have HW := Lib.hid (HT.out.ret (q := ⟨0, ⟨#[]⟩, 0, none, 0, 0⟩) ((IsT.leaf _ _ 0 ⟨#[]⟩ 0)))
  obtain ⟨d0, d1, d2, d3, f0⟩ := HT.out.res.cells
  try unfold ndC
  go_wp2_with fail
  obtain ⟨hcell, hist, hrr, hmv⟩ := HW.out
  exact bodyPost_ret (results_cellT rfl _ _ _ ⟨w.heap.size, 0, none⟩ _ rfl (load_node _ _ ⟨0, ⟨#[]⟩, 0, none, 0, 0⟩ hcell)) rfl (HD.out.postE hist hrr hmv)
 have hx : (⟨kd, tx, ax⟩ : Lx.Tok) = r.L.getD i tok0 := HGX.out i _ _ rfl rfl
 have HXE := Lib.hid hx
 have hlt := HT.out.rr.lt
 have HOK : Hid (∃ j, (.ok i : Except Nat Nat) = .ok j) := ⟨i, rfl⟩
 clear hx HGX
 obtain ⟨x0, x1, x2⟩ := HX.out.cells
 dsimp only at x0 x1 x2
 by_cases hk3 : kd = 3
 ·subst hk3
  have hi1 : i + 1 < r.L.length := HI0.out i hlt (by rw [← HXE.out])
  replace HD : Hid (Due P (.ok i) (bindM (takeM r) fun _ => ndM 20 tx ax []) (.ok i)) := HD
  have hr1 : RrIn r i (-1) s w4 := HT.out.rr
  obtain ⟨c0, c1, c2, c3, fz⟩ := hr1.c
  have hcast : ((i : Int) + 1) = ((i + 1 : Nat) : Int) := by omega
  have hwr : IntKind.i64.wrap ((i : Int) + 1) = (i : Int) + 1 := by have := hr1.few; exact IntWalk.i64_in _ (by omega)
  have hr2 : RrAt r (.ok (i + 1)) s (w4.setCell ⟨r.b, 1, none⟩ (.int .i64 ((i : Int) + 1))) := by rw [hcast]; exact hr1.set (But.setCell w4 _ _ rfl) (heap_setCell_same w4 r.b 1 _ _ _ hr1.cells) hi1 (by omega)
  have hm2 : Mv r w4 (w4.setCell ⟨r.b, 1, none⟩ (.int .i64 ((i : Int) + 1))) := But.setCell w4 _ _ rfl
  clear hcast
  replace HT := Lib.hid (HT.out.on hr2 hm2)
  replace HX := Lib.hid (HX.out.on hm2)
  have hgt : Got (takeM r) (.ok i) (r.L.getD i tok0) := Got.of (j := i + 1) rfl
  replace HD := Lib.hid (HD.out.step hgt)
  clear hr1 hr2 hm2 hgt
  obtain ⟨y0, y1, y2⟩ := HX.out.cells
  dsimp only at y0 y1 y2
  go_wp2_with fail
  clear c0 c1 c2 c3 fz hwr x0 x1 x2 y0 y1 y2
  refine (leaf_r 20 tx ax none 0 0 _ HT.out.rr).mono ?_
  rintro e w6 ⟨rfl, hr, hm⟩
  replace HT := Lib.hid (HT.out.on hr hm)
  clear hr hm
  have HW := Lib.hid (HT.out.ret (q := ⟨20, tx, ax, none, 0, 0⟩) (IsT.leaf _ _ _ _ _))
  obtain ⟨d0, d1, d2, d3, f0⟩ := HT.out.res.cells
  try unfold ndC
  go_wp2_with fail
  obtain ⟨hcell, hist, hrr, hmv⟩ := HW.out
  exact bodyPost_ret (results_cellT rfl _ _ _ ⟨w.heap.size, 0, none⟩ _ rfl (load_node _ _ ⟨20, tx, ax, none, 0, 0⟩ hcell)) rfl (HD.out.postP hist hrr hmv)
 have hkb3 : (kd == 3) = false := beq_eq_false_iff_ne.2 hk3
 replace HD := Lib.hid (HD.out.to (show primB r Ls E Bk Bs ⟨kd, tx, ax⟩ = _ from if_neg hk3))
 go_wp2_with fail
 clear x0 x1 x2
 refine (is_r r _ s ⟨#[116, 114, 117, 101]⟩ _ HT.out.rr HK.out (known_of (by decide))).mono ?_
 rintro e w5 ⟨b, rfl, hr, hm, hg, hz⟩
 have HMK := Lib.hid hg
 replace HD := Lib.hid (HD.out.step hg)
 replace HT := Lib.hid (HT.out.on hr hm)
 replace HX := Lib.hid (HX.out.on hm)
 clear hr hm hg
 rw [after_is] at HT HD
 cases b
 rotate_left
 ·have hi1 : i + 1 < r.L.length := HE.out.mark hlt (HMK.out i _ _ rfl rfl).symm (by decide)
  replace HD : Hid (Due P (.ok i) (bindM (takeM r) fun _ => ndM 21 tx ax []) (.ok i)) := HD
  have hr1 : RrIn r i (-1) s w5 := HT.out.rr
  obtain ⟨c0, c1, c2, c3, fz⟩ := hr1.c
  have hcast : ((i : Int) + 1) = ((i + 1 : Nat) : Int) := by omega
  have hwr : IntKind.i64.wrap ((i : Int) + 1) = (i : Int) + 1 := by have := hr1.few; exact IntWalk.i64_in _ (by omega)
  have hr2 : RrAt r (.ok (i + 1)) s (w5.setCell ⟨r.b, 1, none⟩ (.int .i64 ((i : Int) + 1))) := by rw [hcast]; exact hr1.set (But.setCell w5 _ _ rfl) (heap_setCell_same w5 r.b 1 _ _ _ hr1.cells) hi1 (by omega)
  have hm2 : Mv r w5 (w5.setCell ⟨r.b, 1, none⟩ (.int .i64 ((i : Int) + 1))) := But.setCell w5 _ _ rfl
  clear hcast
  replace HT := Lib.hid (HT.out.on hr2 hm2)
  replace HX := Lib.hid (HX.out.on hm2)
  have hgt : Got (takeM r) (.ok i) (r.L.getD i tok0) := Got.of (j := i + 1) rfl
  replace HD := Lib.hid (HD.out.step hgt)
  clear hr1 hr2 hm2 hgt
  obtain ⟨y0, y1, y2⟩ := HX.out.cells
  dsimp only at y0 y1 y2
  go_wp2_with fail
  clear c0 c1 c2 c3 fz hwr y0 y1 y2
  refine (leaf_r 21 tx ax none 0 0 _ HT.out.rr).mono ?_
  rintro e w6 ⟨rfl, hr, hm⟩
  replace HT := Lib.hid (HT.out.on hr hm)
  clear hr hm
  have HW := Lib.hid (HT.out.ret (q := ⟨21, tx, ax, none, 0, 0⟩) (IsT.leaf _ _ _ _ _))
  obtain ⟨d0, d1, d2, d3, f0⟩ := HT.out.res.cells
  try unfold ndC
  go_wp2_with fail
  obtain ⟨hcell, hist, hrr, hmv⟩ := HW.out
  exact bodyPost_ret (results_cellT rfl _ _ _ ⟨w.heap.size, 0, none⟩ _ rfl (load_node _ _ ⟨21, tx, ax, none, 0, 0⟩ hcell)) rfl (HD.out.postP hist hrr hmv)
 clear HMK hz
 go_wp2_with fail
 refine (is_r r _ s ⟨#[102, 97, 108, 115, 101]⟩ _ HT.out.rr HK.out (known_of (by decide))).mono ?_
 rintro e w6 ⟨b, rfl, hr, hm, hg, hz⟩
 have HMK := Lib.hid hg
 replace HD := Lib.hid (HD.out.step hg)
 replace HT := Lib.hid (HT.out.on hr hm)
 replace HX := Lib.hid (HX.out.on hm)
 clear hr hm hg
 rw [after_is] at HT HD
 cases b
 rotate_left
 ·have hi1 : i + 1 < r.L.length := HE.out.mark hlt (HMK.out i _ _ rfl rfl).symm (by decide)
  replace HD : Hid (Due P (.ok i) (bindM (takeM r) fun _ => ndM 21 tx ax []) (.ok i)) := HD
  have hr1 : RrIn r i (-1) s w6 := HT.out.rr
  obtain ⟨c0, c1, c2, c3, fz⟩ := hr1.c
  have hcast : ((i : Int) + 1) = ((i + 1 : Nat) : Int) := by omega
  have hwr : IntKind.i64.wrap ((i : Int) + 1) = (i : Int) + 1 := by have := hr1.few; exact IntWalk.i64_in _ (by omega)
  have hr2 : RrAt r (.ok (i + 1)) s (w6.setCell ⟨r.b, 1, none⟩ (.int .i64 ((i : Int) + 1))) := by rw [hcast]; exact hr1.set (But.setCell w6 _ _ rfl) (heap_setCell_same w6 r.b 1 _ _ _ hr1.cells) hi1 (by omega)
  have hm2 : Mv r w6 (w6.setCell ⟨r.b, 1, none⟩ (.int .i64 ((i : Int) + 1))) := But.setCell w6 _ _ rfl
  clear hcast
  replace HT := Lib.hid (HT.out.on hr2 hm2)
  replace HX := Lib.hid (HX.out.on hm2)
  have hgt : Got (takeM r) (.ok i) (r.L.getD i tok0) := Got.of (j := i + 1) rfl
  replace HD := Lib.hid (HD.out.step hgt)
  clear hr1 hr2 hm2 hgt
  obtain ⟨y0, y1, y2⟩ := HX.out.cells
  dsimp only at y0 y1 y2
  go_wp2_with fail
  clear c0 c1 c2 c3 fz hwr y0 y1 y2
  refine (leaf_r 21 tx ax none 0 0 _ HT.out.rr).mono ?_
  rintro e w7 ⟨rfl, hr, hm⟩
  replace HT := Lib.hid (HT.out.on hr hm)
  clear hr hm
  have HW := Lib.hid (HT.out.ret (q := ⟨21, tx, ax, none, 0, 0⟩) (IsT.leaf _ _ _ _ _))
  obtain ⟨d0, d1, d2, d3, f0⟩ := HT.out.res.cells
  try unfold ndC
  go_wp2_with fail
  obtain ⟨hcell, hist, hrr, hmv⟩ := HW.out
  exact bodyPost_ret (results_cellT rfl _ _ _ ⟨w.heap.size, 0, none⟩ _ rfl (load_node _ _ ⟨21, tx, ax, none, 0, 0⟩ hcell)) rfl (HD.out.postP hist hrr hmv)
 clear HMK hz
 obtain ⟨x0, x1, x2⟩ := HX.out.cells
 dsimp only at x0 x1 x2
 by_cases hk1 : kd = 1
 ·subst hk1
  have hi1 : i + 1 < r.L.length := HE.out i hlt (.inl (by rw [← HXE.out]))
  replace HD : Hid (Due P (.ok i) (bindM (takeM r) fun _ => primN r Ls ⟨1, tx, ax⟩) (.ok i)) := HD
  have hr1 : RrIn r i (-1) s w6 := HT.out.rr
  obtain ⟨c0, c1, c2, c3, fz⟩ := hr1.c
  have hcast : ((i : Int) + 1) = ((i + 1 : Nat) : Int) := by omega
  have hwr : IntKind.i64.wrap ((i : Int) + 1) = (i : Int) + 1 := by have := hr1.few; exact IntWalk.i64_in _ (by omega)
  have hr2 : RrAt r (.ok (i + 1)) s (w6.setCell ⟨r.b, 1, none⟩ (.int .i64 ((i : Int) + 1))) := by rw [hcast]; exact hr1.set (But.setCell w6 _ _ rfl) (heap_setCell_same w6 r.b 1 _ _ _ hr1.cells) hi1 (by omega)
  have hm2 : Mv r w6 (w6.setCell ⟨r.b, 1, none⟩ (.int .i64 ((i : Int) + 1))) := But.setCell w6 _ _ rfl
  clear hcast
  replace HT := Lib.hid (HT.out.on hr2 hm2)
  replace HX := Lib.hid (HX.out.on hm2)
  have hgt : Got (takeM r) (.ok i) (r.L.getD i tok0) := Got.of (j := i + 1) rfl
  replace HD := Lib.hid (HD.out.step hgt)
  clear hr1 hr2 hm2 hgt
  go_wp2_with fail
  clear c0 c1 c2 c3 fz hwr x0 x1 x2
  have hd3 : after (takeM r) (.ok i) = .ok (i + 1) := rfl
  rw [hd3] at HD
  clear hd3
  refine (is_r r _ s ⟨#[40]⟩ _ HT.out.rr HK.out (known_of (by decide))).mono ?_
  rintro e w8 ⟨b, rfl, hr, hm, hg, hz⟩
  replace HD := Lib.hid (HD.out.step hg)
  replace HT := Lib.hid (HT.out.on hr hm)
  replace HX := Lib.hid (HX.out.on hm)
  clear hr hm hg
  rw [after_is] at HT HD
  cases b
  rotate_left
  ·go_wp2_with fail
   have HO : Hid (∀ b, (none : Option Nat) = some b → r.b < b ∧ b < w8.heap.size) := fun b e => by cases e
   have HRW : Hid (r.b < w8.heap.size) := HT.out.rr.rb
   apply wp_region_many 7 (Sx r none 6 1000) (InvX r w none w8) (F0x r (.ok (i + 1)) s (r.b + 1) (.slice none 0 0) [] 6 1000)
   case hIS => exact fun i x y hs hi => hi.step i hs (fun b e => by cases e)
   case hk0 => exact F0x.keeps (v := .slice none 0 0) (by omega) (fun b e => by cases e)
   case hm => kernel_rfl
   case hB => kernel_rfl
   case h0 => exact InvX.start HT.out.mv
   case h1 => exact F0x.start HT.out.rr (Nodes.none _ _)
   simp only [List.take_succ_cons, List.take_zero, List.drop_succ_cons, List.drop_zero]
   apply wpMany_cons (t := tvIs (.pointer (some ⟨g, 1, none⟩))) (tvIs_goodS _ _)
   case h1 =>
    intro W hI hl
    unfold oneAt
    go_simp
    exact sx_is (by decide) (by decide)
   intro _
   rw [tvIs_f]
   go_simp
   apply wpMany_cons (t := tvIs (.string tx)) (tvIs_goodS _ _)
   case h1 =>
    intro W hI hl
    obtain ⟨x0, x1, x2⟩ := (hI.tok HX.out (fun e => by cases e)).cells
    dsimp only at x0 x1 x2
    unfold oneAt
    go_simp
    exact sx_is (by decide) (by decide)
   intro _
   rw [tvIs_f]
   go_simp
   apply wpMany_cons (t := tvIs (.pointer (some ⟨g, 2, none⟩))) (tvIs_goodS _ _)
   case h1 =>
    intro W hI hl
    unfold oneAt
    go_simp
    exact sx_is (by decide) (by decide)
   intro _
   rw [tvIs_f]
   go_simp
   apply wpMany_cons (t := tvIs (.int .i64 ax)) (tvIs_goodS _ _)
   case h1 =>
    intro W hI hl
    obtain ⟨x0, x1, x2⟩ := (hI.tok HX.out (fun e => by cases e)).cells
    dsimp only at x0 x1 x2
    unfold oneAt
    go_simp
    exact sx_is (by decide) (by decide)
   intro _
   rw [tvIs_f]
   go_simp
   apply wpMany_cons (t := tvIs (.pointer (some ⟨r.b, 0, none⟩))) (tvIs_goodS _ _)
   case h1 =>
    intro W hI hl
    unfold oneAt
    go_simp
    exact sx_is (by decide) (by decide)
   intro _
   rw [tvIs_f]
   go_simp
   apply wpMany_cons (t := tvIs (.int .i64 lv)) (tvIs_goodS _ _)
   case h1 =>
    intro W hI hl
    unfold oneAt
    go_simp
    exact sx_is (by decide) (by decide)
   intro _
   rw [tvIs_f]
   go_simp
   apply wpMany_cons (t := tyCallL r w8 (Ls) (.ok (i + 1)) s) (tyCallL_good HRW.out HO.out)
   case h1 =>
    intro W hI hl
    have hr : RrAt r (.ok (i + 1)) s W := hl.1.1 rfl
    unfold oneAt
    go_simp
    exact sx_callL hI (HLS.out _ W HOK.out hr)
   rintro ⟨⟨a6, n6, c6⟩, l6⟩
   rw [tyCallL_f]
   go_simp
   apply wpMany_nil (Ts := [])
   intro w20 hI hFa
   have h6 : IsTs (fun b => w8.heap.size ≤ b) w20 (.slice a6 n6 c6) l6 ∧ RrAt r (after (Ls) (.ok (i + 1))) s w20 ∧ Got (Ls) (.ok (i + 1)) l6 := hFa 6
   have hup := HT.out.up
   replace HD := Lib.hid (HD.out.step h6.2.2)
   replace HT := Lib.hid (hI.st HT.out h6.2.1 (fun b e => by cases e))
   have HN := Lib.hid (h6.1.mono (A' := fun b => w.heap.size < b) (fun b hb => by omega))
   clear hI hFa h6 hup HO HRW
   go_wp2_with fail
   refine (leaf_r 23 tx ax a6 n6 c6 _ HT.out.rr).mono ?_
   rintro e w22 ⟨rfl, hr, hm⟩
   replace HT := Lib.hid (HT.out.on hr hm)
   replace HN := Lib.hid (HN.out.but hm (fun a e q => by have e2 : a.block = r.b := e; have := HT.out.rb; omega))
   clear hr hm
   have HW := Lib.hid (HT.out.ret (q := ⟨23, tx, ax, a6, n6, c6⟩) (IsT.node _ _ _ HN.out))
   obtain ⟨d0, d1, d2, d3, f0⟩ := HT.out.res.cells
   try unfold ndC
   go_wp2_with fail
   obtain ⟨hcell, hist, hrr, hmv⟩ := HW.out
   exact bodyPost_ret (results_cellT rfl _ _ _ ⟨w.heap.size, 0, none⟩ _ rfl (load_node _ _ ⟨23, tx, ax, a6, n6, c6⟩ hcell)) rfl (HD.out.postP hist hrr hmv)
  go_wp2_with fail
  refine (take_r r _ s ⟨#[33]⟩ _ HT.out.rr HE.out HK.out (by decide) (known_of (by decide))).mono ?_
  rintro e w9 ⟨b, rfl, hr, hm, hg, hz⟩
  replace HD := Lib.hid (HD.out.step hg)
  replace HT := Lib.hid (HT.out.on hr hm)
  replace HX := Lib.hid (HX.out.on hm)
  clear hr hm hg
  generalize after (tookM r _) (.ok (i + 1)) = σ9 at HT HD
  cases b
  rotate_left
  ·go_wp2_with fail
   have HO : Hid (∀ b, (none : Option Nat) = some b → r.b < b ∧ b < w9.heap.size) := fun b e => by cases e
   have HRW : Hid (r.b < w9.heap.size) := HT.out.rr.rb
   apply wp_region_many 7 (Sx r none 6 1000) (InvX r w none w9) (F0x r σ9 s (r.b + 1) (.slice none 0 0) [] 6 1000)
   case hIS => exact fun i x y hs hi => hi.step i hs (fun b e => by cases e)
   case hk0 => exact F0x.keeps (v := .slice none 0 0) (by omega) (fun b e => by cases e)
   case hm => kernel_rfl
   case hB => kernel_rfl
   case h0 => exact InvX.start HT.out.mv
   case h1 => exact F0x.start HT.out.rr (Nodes.none _ _)
   simp only [List.take_succ_cons, List.take_zero, List.drop_succ_cons, List.drop_zero]
   apply wpMany_cons (t := tvIs (.pointer (some ⟨g, 1, none⟩))) (tvIs_goodS _ _)
   case h1 =>
    intro W hI hl
    unfold oneAt
    go_simp
    exact sx_is (by decide) (by decide)
   intro _
   rw [tvIs_f]
   go_simp
   apply wpMany_cons (t := tvIs (.string tx)) (tvIs_goodS _ _)
   case h1 =>
    intro W hI hl
    obtain ⟨x0, x1, x2⟩ := (hI.tok HX.out (fun e => by cases e)).cells
    dsimp only at x0 x1 x2
    unfold oneAt
    go_simp
    exact sx_is (by decide) (by decide)
   intro _
   rw [tvIs_f]
   go_simp
   apply wpMany_cons (t := tvIs (.pointer (some ⟨g, 2, none⟩))) (tvIs_goodS _ _)
   case h1 =>
    intro W hI hl
    unfold oneAt
    go_simp
    exact sx_is (by decide) (by decide)
   intro _
   rw [tvIs_f]
   go_simp
   apply wpMany_cons (t := tvIs (.int .i64 ax)) (tvIs_goodS _ _)
   case h1 =>
    intro W hI hl
    obtain ⟨x0, x1, x2⟩ := (hI.tok HX.out (fun e => by cases e)).cells
    dsimp only at x0 x1 x2
    unfold oneAt
    go_simp
    exact sx_is (by decide) (by decide)
   intro _
   rw [tvIs_f]
   go_simp
   apply wpMany_cons (t := tvIs (.pointer (some ⟨r.b, 0, none⟩))) (tvIs_goodS _ _)
   case h1 =>
    intro W hI hl
    unfold oneAt
    go_simp
    exact sx_is (by decide) (by decide)
   intro _
   rw [tvIs_f]
   go_simp
   apply wpMany_cons (t := tvIs (.int .i64 lv)) (tvIs_goodS _ _)
   case h1 =>
    intro W hI hl
    unfold oneAt
    go_simp
    exact sx_is (by decide) (by decide)
   intro _
   rw [tvIs_f]
   go_simp
   apply wpMany_cons (t := tyCallL r w9 (Ls) σ9 s) (tyCallL_good HRW.out HO.out)
   case h1 =>
    intro W hI hl
    have hr : RrAt r σ9 s W := hl.1.1 rfl
    unfold oneAt
    go_simp
    exact sx_callL hI (HLS.out _ W HOK.out hr)
   rintro ⟨⟨a6, n6, c6⟩, l6⟩
   rw [tyCallL_f]
   go_simp
   apply wpMany_nil (Ts := [])
   intro w20 hI hFa
   have h6 : IsTs (fun b => w9.heap.size ≤ b) w20 (.slice a6 n6 c6) l6 ∧ RrAt r (after (Ls) σ9) s w20 ∧ Got (Ls) σ9 l6 := hFa 6
   have hup := HT.out.up
   replace HD := Lib.hid (HD.out.step h6.2.2)
   replace HT := Lib.hid (hI.st HT.out h6.2.1 (fun b e => by cases e))
   have HN := Lib.hid (h6.1.mono (A' := fun b => w.heap.size < b) (fun b hb => by omega))
   clear hI hFa h6 hup HO HRW
   go_wp2_with fail
   refine (leaf_r 24 tx ax a6 n6 c6 _ HT.out.rr).mono ?_
   rintro e w22 ⟨rfl, hr, hm⟩
   replace HT := Lib.hid (HT.out.on hr hm)
   replace HN := Lib.hid (HN.out.but hm (fun a e q => by have e2 : a.block = r.b := e; have := HT.out.rb; omega))
   clear hr hm
   have HW := Lib.hid (HT.out.ret (q := ⟨24, tx, ax, a6, n6, c6⟩) (IsT.node _ _ _ HN.out))
   obtain ⟨d0, d1, d2, d3, f0⟩ := HT.out.res.cells
   try unfold ndC
   go_wp2_with fail
   obtain ⟨hcell, hist, hrr, hmv⟩ := HW.out
   exact bodyPost_ret (results_cellT rfl _ _ _ ⟨w.heap.size, 0, none⟩ _ rfl (load_node _ _ ⟨24, tx, ax, a6, n6, c6⟩ hcell)) rfl (HD.out.postP hist hrr hmv)
  obtain ⟨y0, y1, y2⟩ := HX.out.cells
  dsimp only at y0 y1 y2
  go_wp2_with fail
  refine (leaf_r 22 tx ax none 0 0 _ HT.out.rr).mono ?_
  rintro e w10 ⟨rfl, hr, hm⟩
  replace HT := Lib.hid (HT.out.on hr hm)
  clear hr hm
  have HW := Lib.hid (HT.out.ret (q := ⟨22, tx, ax, none, 0, 0⟩) (IsT.leaf _ _ _ _ _))
  obtain ⟨d0, d1, d2, d3, f0⟩ := HT.out.res.cells
  try unfold ndC
  go_wp2_with fail
  obtain ⟨hcell, hist, hrr, hmv⟩ := HW.out
  exact bodyPost_ret (results_cellT rfl _ _ _ ⟨w.heap.size, 0, none⟩ _ rfl (load_node _ _ ⟨22, tx, ax, none, 0, 0⟩ hcell)) rfl (HD.out.postP hist hrr hmv)
 have hkb1 : (kd == 1) = false := beq_eq_false_iff_ne.2 hk1
 replace HD := Lib.hid (HD.out.to (show primC r Ls E Bk Bs ⟨kd, tx, ax⟩ = _ from if_neg hk1))
 go_wp2_with fail
 clear x0 x1 x2
 refine (take_r r _ s ⟨#[110, 101, 119]⟩ _ HT.out.rr HE.out HK.out (by decide) (known_of (by decide))).mono ?_
 rintro e w8 ⟨b, rfl, hr, hm, hg, hz⟩
 replace HD := Lib.hid (HD.out.step hg)
 replace HT := Lib.hid (HT.out.on hr hm)
 replace HX := Lib.hid (HX.out.on hm)
 clear hr hm hg
 generalize after (tookM r _) (.ok i) = σ8 at HT HD
 cases b
 rotate_left
 ·go_wp2_with fail
  refine (name_r r _ s _ HT.out.rr HE.out).mono ?_
  rintro e w9 ⟨nm, rfl, hr, hm, hg⟩
  replace HD := Lib.hid (HD.out.step hg)
  replace HT := Lib.hid (HT.out.on hr hm)
  replace HX := Lib.hid (HX.out.on hm)
  clear hr hm hg
  generalize after (nameM r) σ8 = σ9 at HT HD
  go_wp2_with fail
  have HO : Hid (∀ b, (none : Option Nat) = some b → r.b < b ∧ b < w9.heap.size) := fun b e => by cases e
  have HRW : Hid (r.b < w9.heap.size) := HT.out.rr.rb
  apply wp_region_many 6 (Sx r none 5 1000) (InvX r w none w9) (F0x r σ9 s (r.b + 1) (.slice none 0 0) [] 5 1000)
  case hIS => exact fun i x y hs hi => hi.step i hs (fun b e => by cases e)
  case hk0 => exact F0x.keeps (v := .slice none 0 0) (by omega) (fun b e => by cases e)
  case hm => kernel_rfl
  case hB => kernel_rfl
  case h0 => exact InvX.start HT.out.mv
  case h1 => exact F0x.start HT.out.rr (Nodes.none _ _)
  simp only [List.take_succ_cons, List.take_zero, List.drop_succ_cons, List.drop_zero]
  apply wpMany_cons (t := tvIs (.string nm)) (tvIs_goodS _ _)
  case h1 =>
   intro W hI hl
   unfold oneAt
   go_simp
   exact sx_is (by decide) (by decide)
  intro _
  rw [tvIs_f]
  go_simp
  apply wpMany_cons (t := tvIs (.pointer (some ⟨g, 2, none⟩))) (tvIs_goodS _ _)
  case h1 =>
   intro W hI hl
   unfold oneAt
   go_simp
   exact sx_is (by decide) (by decide)
  intro _
  rw [tvIs_f]
  go_simp
  apply wpMany_cons (t := tvIs (.int .i64 ax)) (tvIs_goodS _ _)
  case h1 =>
   intro W hI hl
   obtain ⟨x0, x1, x2⟩ := (hI.tok HX.out (fun e => by cases e)).cells
   dsimp only at x0 x1 x2
   unfold oneAt
   go_simp
   exact sx_is (by decide) (by decide)
  intro _
  rw [tvIs_f]
  go_simp
  apply wpMany_cons (t := tvIs (.pointer (some ⟨r.b, 0, none⟩))) (tvIs_goodS _ _)
  case h1 =>
   intro W hI hl
   unfold oneAt
   go_simp
   exact sx_is (by decide) (by decide)
  intro _
  rw [tvIs_f]
  go_simp
  apply wpMany_cons (t := tvIs (.int .i64 lv)) (tvIs_goodS _ _)
  case h1 =>
   intro W hI hl
   unfold oneAt
   go_simp
   exact sx_is (by decide) (by decide)
  intro _
  rw [tvIs_f]
  go_simp
  apply wpMany_cons (t := tyCallL r w9 (Ls) σ9 s) (tyCallL_good HRW.out HO.out)
  case h1 =>
   intro W hI hl
   have hr : RrAt r σ9 s W := hl.1.1 rfl
   unfold oneAt
   go_simp
   exact sx_callL hI (HLS.out _ W HOK.out hr)
  rintro ⟨⟨a6, n6, c6⟩, l6⟩
  rw [tyCallL_f]
  go_simp
  apply wpMany_nil (Ts := [])
  intro w20 hI hFa
  have h6 : IsTs (fun b => w9.heap.size ≤ b) w20 (.slice a6 n6 c6) l6 ∧ RrAt r (after (Ls) σ9) s w20 ∧ Got (Ls) σ9 l6 := hFa 5
  have hup := HT.out.up
  replace HD := Lib.hid (HD.out.step h6.2.2)
  replace HT := Lib.hid (hI.st HT.out h6.2.1 (fun b e => by cases e))
  have HN := Lib.hid (h6.1.mono (A' := fun b => w.heap.size < b) (fun b hb => by omega))
  clear hI hFa h6 hup HO HRW
  go_wp2_with fail
  refine (leaf_r 25 nm ax a6 n6 c6 _ HT.out.rr).mono ?_
  rintro e w22 ⟨rfl, hr, hm⟩
  replace HT := Lib.hid (HT.out.on hr hm)
  replace HN := Lib.hid (HN.out.but hm (fun a e q => by have e2 : a.block = r.b := e; have := HT.out.rb; omega))
  clear hr hm
  have HW := Lib.hid (HT.out.ret (q := ⟨25, nm, ax, a6, n6, c6⟩) (IsT.node _ _ _ HN.out))
  obtain ⟨d0, d1, d2, d3, f0⟩ := HT.out.res.cells
  try unfold ndC
  go_wp2_with fail
  obtain ⟨hcell, hist, hrr, hmv⟩ := HW.out
  exact bodyPost_ret (results_cellT rfl _ _ _ ⟨w.heap.size, 0, none⟩ _ rfl (load_node _ _ ⟨25, nm, ax, a6, n6, c6⟩ hcell)) rfl (HD.out.postP hist hrr hmv)
 clear hz
 go_wp2_with fail
 refine (take_r r _ s ⟨#[40]⟩ _ HT.out.rr HE.out HK.out (by decide) (known_of (by decide))).mono ?_
 rintro e w9 ⟨b, rfl, hr, hm, hg, hz⟩
 replace HD := Lib.hid (HD.out.step hg)
 replace HT := Lib.hid (HT.out.on hr hm)
 replace HX := Lib.hid (HX.out.on hm)
 clear hr hm hg
 generalize after (tookM r _) σ8 = σ9 at HT HD
 cases b
 rotate_left
 ·have hw : IntKind.i64.wrap (lv + 1) = lv + 1 := IntWalk.i64_in _ (by omega)
  go_wp2_with fail
  refine (HEX.out _ _ HOK.out HT.out.rr).mono ?_
  rintro e w10 ⟨q1, t1, rfl, ht, hr, hm, hg⟩
  have HI := Lib.hid (ht.mono (fun b hb => Nat.lt_of_lt_of_le HT.out.up hb))
  replace HD := Lib.hid (HD.out.step hg)
  replace HT := Lib.hid (HT.out.on hr hm)
  clear hr hm hg ht
  unfold ndC
  go_wp2_with fail
  have HB := Lib.hid (Var.first HT.out HI.out)
  have hbx := boxB w10 (.cells (ndC q1) 40)
  replace HT := Lib.hid (HT.out.on (HT.out.rr.below hbx) (Mv.of_below hbx))
  clear hbx HI
  unfold ndC at HB HT
  obtain ⟨g2, hg⟩ : ∃ g2, w10.heap.size = g2 := ⟨_, rfl⟩
  rw [hg] at HB ⊢
  generalize w10.alloc (.cells #[.int .i64 q1.kind, .string q1.text, .int .i64 q1.at_, .slice q1.p q1.n q1.cap] 40) = w11 at *
  clear hg
  refine (need_r r _ s ⟨#[41]⟩ _ HT.out.rr HE.out HK.out (by decide) (known_of (by decide))).mono ?_
  rintro e w12 ⟨rfl, hr, hm⟩
  replace HD := Lib.hid (HD.out.step (Got.unit _ _))
  replace HT := Lib.hid (HT.out.on hr hm)
  replace HB := Lib.hid (HB.out.on hm)
  clear hr hm
  obtain ⟨b0, b1, b2, b3⟩ := HB.out.box.cells
  have HW := Lib.hid (HT.out.ret (q := q1) (HB.out.val))
  obtain ⟨d0, d1, d2, d3, f0⟩ := HT.out.res.cells
  try unfold ndC
  go_wp2_with fail
  obtain ⟨hcell, hist, hrr, hmv⟩ := HW.out
  exact bodyPost_ret (results_cellT rfl _ _ _ ⟨w.heap.size, 0, none⟩ _ rfl (load_node _ _ q1 hcell)) rfl (HD.out.postP hist hrr hmv)
 clear hz
 go_wp2_with fail
 refine (take_r r _ s ⟨#[105, 102]⟩ _ HT.out.rr HE.out HK.out (by decide) (known_of (by decide))).mono ?_
 rintro e w10 ⟨b, rfl, hr, hm, hg, hz⟩
 replace HD := Lib.hid (HD.out.step hg)
 replace HT := Lib.hid (HT.out.on hr hm)
 replace HX := Lib.hid (HX.out.on hm)
 clear hr hm hg
 generalize after (tookM r _) σ9 = σ10 at HT HD
 cases b
 rotate_left
 ·have hw : IntKind.i64.wrap (lv + 1) = lv + 1 := IntWalk.i64_in _ (by omega)
  go_wp2_with fail
  refine (HEX.out _ _ HOK.out HT.out.rr).mono ?_
  rintro e w11 ⟨q1, t1, rfl, ht, hr, hm, hg⟩
  have HI := Lib.hid (ht.mono (fun b hb => Nat.lt_of_lt_of_le HT.out.up hb))
  replace HD := Lib.hid (HD.out.step hg)
  replace HT := Lib.hid (HT.out.on hr hm)
  replace HX := Lib.hid (HX.out.on hm)
  clear hr hm hg ht
  unfold ndC
  go_wp2_with fail
  have HB := Lib.hid (Var.first HT.out HI.out)
  have hbx := boxB w11 (.cells (ndC q1) 40)
  replace HT := Lib.hid (HT.out.on (HT.out.rr.below hbx) (Mv.of_below hbx))
  replace HX := Lib.hid (HX.out.on (Mv.of_below hbx))
  clear hbx HI
  unfold ndC at HB HT HX
  obtain ⟨g1, hg⟩ : ∃ g1, w11.heap.size = g1 := ⟨_, rfl⟩
  rw [hg] at HB ⊢
  generalize w11.alloc (.cells #[.int .i64 q1.kind, .string q1.text, .int .i64 q1.at_, .slice q1.p q1.n q1.cap] 40) = w12 at *
  clear hg
  refine (HBK.out _ _ HOK.out HT.out.rr).mono ?_
  rintro e w13 ⟨q2, t2, rfl, ht, hr, hm, hg⟩
  have HI := Lib.hid (ht.mono (fun b hb => Nat.lt_of_lt_of_le HT.out.up hb))
  replace HD := Lib.hid (HD.out.step hg)
  replace HT := Lib.hid (HT.out.on hr hm)
  replace HX := Lib.hid (HX.out.on hm)
  replace HB := Lib.hid (HB.out.on hm)
  clear hr hm hg ht
  unfold ndC
  go_wp2_with fail
  have HC := Lib.hid (Var.first HT.out HI.out)
  have hbx := boxB w13 (.cells (ndC q2) 40)
  replace HT := Lib.hid (HT.out.on (HT.out.rr.below hbx) (Mv.of_below hbx))
  replace HX := Lib.hid (HX.out.on (Mv.of_below hbx))
  replace HB := Lib.hid (HB.out.on (Mv.of_below hbx))
  clear hbx HI
  unfold ndC at HC HT HX HB
  obtain ⟨g2, hg⟩ : ∃ g2, w13.heap.size = g2 := ⟨_, rfl⟩
  rw [hg] at HC ⊢
  generalize w13.alloc (.cells #[.int .i64 q2.kind, .string q2.text, .int .i64 q2.at_, .slice q2.p q2.n q2.cap] 40) = w14 at *
  clear hg
  refine (need_r r _ s ⟨#[101, 108, 115, 101]⟩ _ HT.out.rr HE.out HK.out (by decide) (known_of (by decide))).mono ?_
  rintro e w15 ⟨rfl, hr, hm⟩
  replace HD := Lib.hid (HD.out.step (Got.unit _ _))
  replace HT := Lib.hid (HT.out.on hr hm)
  replace HX := Lib.hid (HX.out.on hm)
  replace HB := Lib.hid (HB.out.on hm)
  replace HC := Lib.hid (HC.out.on hm)
  clear hr hm
  go_wp2_with fail
  refine (HBK.out _ _ HOK.out HT.out.rr).mono ?_
  rintro e w16 ⟨q3, t3, rfl, ht, hr, hm, hg⟩
  have HI := Lib.hid (ht.mono (fun b hb => Nat.lt_of_lt_of_le HT.out.up hb))
  replace HD := Lib.hid (HD.out.step hg)
  replace HT := Lib.hid (HT.out.on hr hm)
  replace HX := Lib.hid (HX.out.on hm)
  replace HB := Lib.hid (HB.out.on hm)
  replace HC := Lib.hid (HC.out.on hm)
  clear hr hm hg ht
  have hbx := boxB w16 (.cells (ndC q3) 40)
  have HV := Lib.hid (Var.first HT.out HI.out)
  replace HT := Lib.hid (HT.out.on (HT.out.rr.below hbx) (Mv.of_below hbx))
  replace HX := Lib.hid (HX.out.on (Mv.of_below hbx))
  replace HB := Lib.hid (HB.out.on (Mv.of_below hbx))
  replace HC := Lib.hid (HC.out.on (Mv.of_below hbx))
  have hsz : (w16.alloc (.cells (ndC q3) 40)).heap.size = w16.heap.size + 1 := by simp
  clear hbx HI
  unfold ndC at HV HT HX HB HC hsz
  obtain ⟨x0, x1, x2⟩ := HX.out.cells
  dsimp only at x0 x1 x2
  obtain ⟨b0, b1, b2, b3⟩ := HB.out.box.cells
  obtain ⟨c0, c1, c2, c3⟩ := HC.out.box.cells
  obtain ⟨v0, v1, v2, v3⟩ := HV.out.box.cells
  unfold ndC
  go_wp2_with fail
  clear x0 x1 x2 b0 b1 b2 b3 c0 c1 c2 c3 v0 v1 v2 v3
  generalize w16.alloc (.cells #[.int .i64 q3.kind, .string q3.text, .int .i64 q3.at_, .slice q3.p q3.n q3.cap] 40) = w17 at *
  rw [← hsz]
  clear hsz
  have hbx := boxB w17 (.cells #[.int .i64 q1.kind, .string q1.text, .int .i64 q1.at_, .slice q1.p q1.n q1.cap, .int .i64 q2.kind, .string q2.text, .int .i64 q2.at_, .slice q2.p q2.n q2.cap, .int .i64 q3.kind, .string q3.text, .int .i64 q3.at_, .slice q3.p q3.n q3.cap] 40)
  have hrow : IsTs (fun b => w.heap.size < b) (w17.alloc (.cells #[.int .i64 q1.kind, .string q1.text, .int .i64 q1.at_, .slice q1.p q1.n q1.cap, .int .i64 q2.kind, .string q2.text, .int .i64 q2.at_, .slice q2.p q2.n q2.cap, .int .i64 q3.kind, .string q3.text, .int .i64 q3.at_, .slice q3.p q3.n q3.cap] 40)) (.slice (some ⟨w17.heap.size, 0, none⟩) 3 3) [t1, t2, t3] := IsTs.rowAt _ [q1, q2, q3] [t1, t2, t3] (heap_alloc_new w17 _) rfl rfl rfl (by decide) (by decide) HT.out.up (fun i a b => match i, a, b with | 0, _, _ => HB.out.val.later hbx | 1, _, _ => HC.out.val.later hbx | 2, _, _ => HV.out.val.later hbx | i + 3, c, _ => absurd c (by simp))
  replace HT := Lib.hid (HT.out.on (HT.out.rr.below hbx) (Mv.of_below hbx))
  have HN := Lib.hid hrow
  clear hbx hrow HB HC HV HX
  obtain ⟨g6, hg6⟩ : ∃ g6, w17.heap.size = g6 := ⟨_, rfl⟩
  rw [hg6] at HN ⊢
  generalize w17.alloc (.cells #[.int .i64 q1.kind, .string q1.text, .int .i64 q1.at_, .slice q1.p q1.n q1.cap, .int .i64 q2.kind, .string q2.text, .int .i64 q2.at_, .slice q2.p q2.n q2.cap, .int .i64 q3.kind, .string q3.text, .int .i64 q3.at_, .slice q3.p q3.n q3.cap] 40) = w18 at *
  clear hg6
  refine (leaf_r 29 ⟨#[]⟩ ax (some ⟨g6, 0, none⟩) 3 3 _ HT.out.rr).mono ?_
  rintro e w22 ⟨rfl, hr, hm⟩
  replace HT := Lib.hid (HT.out.on hr hm)
  replace HN := Lib.hid (HN.out.but hm (fun a e q => by have e2 : a.block = r.b := e; have := HT.out.rb; omega))
  clear hr hm
  have HW := Lib.hid (HT.out.ret (q := ⟨29, ⟨#[]⟩, ax, some ⟨g6, 0, none⟩, 3, 3⟩) (IsT.node _ _ _ HN.out))
  obtain ⟨d0, d1, d2, d3, f0⟩ := HT.out.res.cells
  try unfold ndC
  go_wp2_with fail
  obtain ⟨hcell, hist, hrr, hmv⟩ := HW.out
  exact bodyPost_ret (results_cellT rfl _ _ _ ⟨w.heap.size, 0, none⟩ _ rfl (load_node _ _ ⟨29, ⟨#[]⟩, ax, some ⟨g6, 0, none⟩, 3, 3⟩ hcell)) rfl (HD.out.postP hist hrr hmv)
 clear hz
 go_wp2_with fail
 refine (is_r r _ s ⟨#[123]⟩ _ HT.out.rr HK.out (known_of (by decide))).mono ?_
 rintro e w11 ⟨b, rfl, hr, hm, hg, hz⟩
 replace HD := Lib.hid (HD.out.step hg)
 replace HT := Lib.hid (HT.out.on hr hm)
 replace HX := Lib.hid (HX.out.on hm)
 clear hr hm hg
 generalize after (isM r _) σ10 = σ11 at HT HD
 cases b
 rotate_left
 ·go_wp2_with fail
  refine (HBS.out _ _ HOK.out HT.out.rr).mono ?_
  rintro e w12 ⟨q1, t1, rfl, ht, hr, hm, hg⟩
  have HI := Lib.hid (ht.mono (fun b hb => Nat.lt_of_lt_of_le HT.out.up hb))
  have HG := Lib.hid hg
  replace HT := Lib.hid (HT.out.on hr hm)
  clear hr hm hg ht
  have HW := Lib.hid (HT.out.ret (q := q1) (HI.out))
  obtain ⟨d0, d1, d2, d3, f0⟩ := HT.out.res.cells
  try unfold ndC
  go_wp2_with fail
  obtain ⟨hcell, hist, hrr, hmv⟩ := HW.out
  exact bodyPost_ret (results_cellT rfl _ _ _ ⟨w.heap.size, 0, none⟩ _ rfl (load_node _ _ q1 hcell)) rfl (HD.out.post HG.out hist hrr hmv)
 clear hz
 go_wp2_with fail
 refine (rFail_any r _ s _ HT.out.rr).mono ?_
 rintro e w12 ⟨rfl, hr, hm⟩
 replace HT := Lib.hid (HT.out.on hr hm)
 clear hr hm
 have HW := Lib.hid (HT.out.ret (q := ⟨0, ⟨#[]⟩, 0, none, 0, 0⟩) ((IsT.leaf _ _ 0 ⟨#[]⟩ 0)))
 obtain ⟨d0, d1, d2, d3, f0⟩ := HT.out.res.cells
 try unfold ndC
 go_wp2_with fail
 obtain ⟨hcell, hist, hrr, hmv⟩ := HW.out
 exact bodyPost_ret (results_cellT rfl _ _ _ ⟨w.heap.size, 0, none⟩ _ rfl (load_node _ _ ⟨0, ⟨#[]⟩, 0, none, 0, 0⟩ hcell)) rfl (HD.out.postF hist hrr hmv)
end Go.Proofs.YtgcaeimlmkkeoaaGreat
