/-
  CONTRACT: the reference's reader: block.
-/
import Derived.Test.YtgcaeimlmkkeoaaGreatZR8
set_option linter.unusedSimpArgs false
set_option linter.unusedVariables false
namespace Go.Proofs.YtgcaeimlmkkeoaaGreat
open Go Go.RowKit
def aftM (r : Rdr) (sg : ByteArray) : PM Bool := fun i => .ok (isAft r i sg, i)
theorem after_aft (r : Rdr) (sg : ByteArray) (σ : Except Nat Nat) : after (aftM r sg) σ = σ := by cases σ <;> rfl
/-- the kinds of a block's parts -/
def stD (r : Rdr) (E : PM Tree) (a : Int) (ts : List Tree) (C : List Tree → PM Tree) : PM Tree := bindM E fun e => bindM (tookM r ⟨#[125]⟩) fun c => match c with
 | true => ndM 30 ⟨#[]⟩ a (ts ++ [e])
 | false => bindM (needM r ⟨#[59]⟩) fun _ => C (ts ++ [.mk 36 ⟨#[]⟩ e.at_ [e]])
def stP (r : Rdr) (E : PM Tree) (a : Int) (ts : List Tree) (C : List Tree → PM Tree) (x : Lx.Tok) : PM Tree := bindM (tookM r ⟨#[112, 114, 105, 110, 116]⟩) fun b => match b with
 | true => bindM E fun e => bindM (needM r ⟨#[59]⟩) fun _ => C (ts ++ [.mk 35 ⟨#[]⟩ x.at_ [e]])
 | false => stD r E a ts C
def stW (r : Rdr) (E Bk : PM Tree) (a : Int) (ts : List Tree) (C : List Tree → PM Tree) (x : Lx.Tok) : PM Tree := bindM (tookM r ⟨#[119, 104, 105, 108, 101]⟩) fun b => match b with
 | true => bindM E fun c => bindM Bk fun b => C (ts ++ [.mk 34 ⟨#[]⟩ x.at_ [c, b]])
 | false => stP r E a ts C x
def stA2 (r : Rdr) (E : PM Tree) (ts : List Tree) (C : List Tree → PM Tree) (x : Lx.Tok) : PM Tree := bindM (takeM r) fun _ => bindM (takeM r) fun _ => bindM E fun e => bindM (needM r ⟨#[59]⟩) fun _ => C (ts ++ [.mk 33 x.text x.at_ [e]])
def stA (r : Rdr) (E Bk : PM Tree) (a : Int) (ts : List Tree) (C : List Tree → PM Tree) (x : Lx.Tok) : PM Tree := if x.kind = 1 then bindM (aftM r ⟨#[61]⟩) fun b => match b with
  | true => stA2 r E ts C x
  | false => stW r E Bk a ts C x
 else stW r E Bk a ts C x
def stL2 (r : Rdr) (E : PM Tree) (ts : List Tree) (C : List Tree → PM Tree) (x : Lx.Tok) : PM Tree := bindM (nameM r) fun nm => bindM (needM r ⟨#[61]⟩) fun _ => bindM E fun e => bindM (needM r ⟨#[59]⟩) fun _ => C (ts ++ [.mk 32 nm x.at_ [e]])
def stL (r : Rdr) (E Bk : PM Tree) (a : Int) (ts : List Tree) (C : List Tree → PM Tree) (x : Lx.Tok) : PM Tree := bindM (tookM r ⟨#[108, 101, 116]⟩) fun b => match b with
 | true => stL2 r E ts C x
 | false => stA r E Bk a ts C x
def stE (r : Rdr) (a : Int) (ts : List Tree) (x : Lx.Tok) : PM Tree := bindM (takeM r) fun _ => ndM 30 ⟨#[]⟩ a (ts ++ [.mk 31 ⟨#[]⟩ x.at_ []])
/-- a part of a block, and what follows it -/
def stK (r : Rdr) (E Bk : PM Tree) (a : Int) (ts : List Tree) (C : List Tree → PM Tree) : PM Tree := bindM (tokM r) fun x => bindM (isM r ⟨#[125]⟩) fun b => match b with
 | true => stE r a ts x
 | false => stL r E Bk a ts C x
def stH (r : Rdr) (E Bk : PM Tree) (a : Int) : Nat → List Tree → PM Tree
 | 0, _ => failM
 | f + 1, ts => stK r E Bk a ts (stH r E Bk a f)
def blkB (r : Rdr) (E Bk : PM Tree) : PM Tree := bindM (hereM r) fun a => bindM (needM r ⟨#[123]⟩) fun _ => stH r E Bk a (r.L.length + 1) []
def blkR (r : Rdr) (E Bk : PM Tree) (lv : Int) : PM Tree := bindM (deepM lv) fun _ => blkB r E Bk
structure VarA (A : Nat → Prop) (r : Rdr) (w0 : World) (g : Nat) (q : Raw) (t : Tree) (W : World) : Prop where
 box : BoxAt r w0 g q W
 tree : IsT A W q t
theorem VarA.first {A : Nat → Prop} {r : Rdr} {w0 : World} {σ : Except Nat Nat} {s : Bool} {W : World} {q : Raw} {t : Tree} (h : St r w0 σ s W) (ht : IsT A W q t) : VarA A r w0 W.heap.size q t (W.alloc (.cells (ndC q) 40)) :=
 ⟨⟨heap_alloc_new W _, lt_heap h.res.z, h.rb⟩, ht.later (boxB W _)⟩
theorem VarA.on {A : Nat → Prop} {r : Rdr} {w0 : World} {g : Nat} {q : Raw} {t : Tree} {W W' : World} (h : VarA A r w0 g q t W) (hA : ∀ b, A b → b ≠ r.b) (hm : Mv r W W') : VarA A r w0 g q t W' := ⟨h.box.mvB hm h.box.old, h.tree.mvG hm hA⟩
theorem took_false {r : Rdr} {sg : ByteArray} {i : Nat} (hg : Got (tookM r sg) (.ok i) false) : after (tookM r sg) (.ok i) = .ok i := by
 by_cases hm : isMark r i sg = true
 ·have := hg i true (i + 1) rfl (tk_yes hm)
  cases this
 ·exact after_ok (tk_no hm)
theorem Sx.rr {r : Rdr} {w0 : World} {σ : Except Nat Nat} {s : Bool} {W : World} (h : St r w0 σ s W) : RrAt r σ s W := h.rr
theorem aft_r (r : Rdr) (σ : Except Nat Nat) (s : Bool) (sg : ByteArray) (w : World) (h : RrAt r σ s w) :
  Calls Tryz.prog 117 #[.pointer (some ⟨r.b, 0, none⟩), .string sg] w fun e w' => ∃ b : Bool, e = .returned (.bool b) ∧ RrAt r (after (aftM r sg) σ) s w' ∧ Mv r w w' ∧ Got (aftM r sg) σ b := by
 obtain ⟨a, bad, hin, _, ha⟩ := h.in_
 refine (rAfter_any r a bad s sg w hin).mono ?_
 rintro e w' ⟨rfl, hb⟩
 refine ⟨_, rfl, by rw [after_aft]; exact h.below hb, Mv.of_below hb, fun i x j e hx => ?_⟩
 have e2 := ha i e
 have hx' : Except.ok (ε := Nat) (isAft r i sg, i) = .ok (x, j) := hx
 simp only [Except.ok.injEq, Prod.mk.injEq] at hx'
 rw [e2]
 exact hx'.1
set_option maxRecDepth 100000 in
set_option maxHeartbeats 4000000 in
theorem rBlock_any (r : Rdr) (σ : Except Nat Nat) (s : Bool) (E Bk : PM Tree) (lv : Int) (hlv : 1 ≤ lv ∧ lv ≤ 1000) (hupE : UpS E) (hupB : Up Bk) (w : World) (h : RrAt r σ s w) (hE : EndAt r) (hK : Known r.L) (hX : ∀ σ1 w1, (∃ j, after (deepM lv) σ = .ok j) → RrAt r σ1 s w1 → Calls Tryz.prog 38 #[.pointer (some ⟨r.b, 0, none⟩), .int .i64 (lv + 1)] w1 (RrPost r E σ1 s w1)) (hB1 : ∀ σ1 w1, (∃ j, after (deepM lv) σ = .ok j) → RrAt r σ1 s w1 → Calls Tryz.prog 88 #[.pointer (some ⟨r.b, 0, none⟩), .int .i64 (lv + 1)] w1 (RrPost r Bk σ1 s w1)) :
  Calls Tryz.prog 88 #[.pointer (some ⟨r.b, 0, none⟩), .int .i64 lv] w (RrPost r (blkR r E Bk lv) σ s w) := by
 have HT := Lib.hid (St.start h)
 have HE := Lib.hid hE
 have HK := Lib.hid hK
 have HEX := Lib.hid hX
 have HBK := Lib.hid hB1
 obtain ⟨P, hP⟩ : ∃ P, (blkR r E Bk lv) = P := ⟨_, rfl⟩
 have hd : Due P σ (blkR r E Bk lv) σ := by rw [hP]; exact Due.refl _ _
 rw [hP]
 clear hP
 unfold blkR at hd
 have HD := Lib.hid hd
 clear h hE hK hd hX hB1
 go_enter Tryz.func88, Tryz.ntmps88
 go_wp2_with fail
 generalize w.alloc (.cells #[.int .i64 0, .string ⟨#[]⟩, .int .i64 0, .slice none 0 0] 40) = w1 at *
 refine (deep_r r _ s lv _ HT.out.rr).mono ?_
 rintro e w2 ⟨rfl, hr, hm⟩
 replace HD := Lib.hid (HD.out.step (Got.unit _ _))
 replace HT := Lib.hid (HT.out.on hr hm)
 clear hr hm
 have HD0 := HD
 clear HD
 have HD := Lib.hid (Due.refl (blkB r E Bk) (after (deepM lv) σ))
 generalize hσ2 : after (deepM lv) σ = σ2 at HT HD HD0 HEX HBK
 clear hσ2
 obtain ⟨P2, hP2⟩ : ∃ P2, blkB r E Bk = P2 := ⟨_, rfl⟩
 replace HD : Hid (Due P2 σ2 (bindM (hereM r) fun a => bindM (needM r ⟨#[123]⟩) fun _ => stH r E Bk a (r.L.length + 1) []) σ2) := by rw [← hP2]; exact HD
 rw [hP2] at HD0
 clear hP2
 go_wp2_with fail
 refine (here_r r _ s _ HT.out.rr).mono ?_
 rintro e w3 ⟨a, rfl, hr, hm, hg⟩
 replace HD := Lib.hid (HD.out.step hg)
 replace HT := Lib.hid (HT.out.on hr hm)
 clear hr hm hg
 go_wp2_with fail
 refine (leaf_r 30 ⟨#[]⟩ a none 0 0 _ HT.out.rr).mono ?_
 rintro e w4 ⟨rfl, hr, hm⟩
 replace HT := Lib.hid (HT.out.on hr hm)
 clear hr hm
 unfold ndC
 go_wp2_with fail
 have HB := Lib.hid (KBox.first 30 ⟨#[]⟩ a HT.out)
 have hbx := boxB w4 (.cells (ndC ⟨30, ⟨#[]⟩, a, none, 0, 0⟩) 40)
 replace HT := Lib.hid (HT.out.on (HT.out.rr.below hbx) (Mv.of_below hbx))
 clear hbx
 unfold ndC at HB HT
 obtain ⟨g, hg⟩ : ∃ g, w4.heap.size = g := ⟨_, rfl⟩
 rw [hg] at HB ⊢
 generalize w4.alloc (.cells #[.int .i64 30, .string ⟨#[]⟩, .int .i64 a, .slice none 0 0] 40) = w5 at *
 clear hg
 refine (need_r r _ s ⟨#[123]⟩ _ HT.out.rr HE.out HK.out (by decide) (known_of (by decide))).mono ?_
 rintro e w6 ⟨rfl, hr, hm⟩
 replace HD := Lib.hid (HD.out.step (Got.unit _ _))
 replace HT := Lib.hid (HT.out.on hr hm)
 replace HB := Lib.hid (HB.out.on hm)
 clear hr hm
 generalize after (needM r _) _ = σ4 at HT HD
 go_wp2_with fail
 go_loopw [6] (fun x wr => ∃ (f : Nat) (q : Raw) (t : Tree) (σ9 : Except Nat Nat), Hid (St r w σ9 s wr) ∧ Hid (KBox r w g q t wr) ∧ Hid (Due P2 σ2 (stH r E Bk a f t.kids) σ9) ∧ Hid (t = .mk 30 ⟨#[]⟩ a t.kids) ∧ t.kids.length + f = r.L.length + 1 ∧ ∀ i, σ9 = .ok i → r.L.length ≤ f + i) (fun _ wr => roomOf r wr)
 case atStart => exact ⟨r.L.length + 1, _, .mk 30 ⟨#[]⟩ a [], σ4, HT.out, HB.out, HD.out, rfl, by simp [Tree.kids], fun i e => by omega⟩
 case round =>
  clear HT HB HD
  obtain ⟨f, q, t, σ9, HT, HB, HD, HKT, hf, HI0⟩ := hrel
  have HRM := Lib.hid (roomOf_eq HT.out.rr)
  have hfew := HT.out.rr.few
  go_wp2_with fail
  refine (ok_r r _ s _ HT.out.rr).mono ?_
  rintro e w7 ⟨b, rfl, rfl, hb⟩
  rcases hb with ⟨rfl, i9, rfl⟩ | ⟨rfl, k, rfl⟩
  rotate_left
  ·clear HI0 HRM
   obtain ⟨b0, b1, b2, b3⟩ := HB.out.box.cells
   have HW := Lib.hid (HT.out.ret (q := q) (HB.out.tree))
   obtain ⟨d0, d1, d2, d3, f0⟩ := HT.out.res.cells
   try unfold ndC
   go_wp2_with fail
   obtain ⟨hcell, hist, hrr, hmv⟩ := HW.out
   exact bodyPost_ret (results_cellT rfl _ _ _ ⟨w.heap.size, 0, none⟩ _ rfl (load_node _ _ q hcell)) rfl (HD0.out.lift (HD.out.postE hist hrr hmv))
  have hfi := HI0 i9 rfl
  have hlt := HT.out.rr.lt
  have HOK := Lib.hid HD.out.er.ok
  obtain ⟨f', rfl⟩ : ∃ f', f = f' + 1 := ⟨f - 1, by omega⟩
  clear HI0
  replace HD : Hid (Due P2 σ2 (stK r E Bk a t.kids (stH r E Bk a f')) (.ok i9)) := HD
  have HOW : Hid (∀ b, (Value.slice q.p q.n q.cap).ownBlock = some b → b < w7.heap.size ∧ g < b) := fun b e => by have := HB.out.own b e; omega
  have HGN : Hid (g < w7.heap.size) := lt_heap HB.out.box.z
  obtain ⟨N0, hN0⟩ : ∃ N0, w7.heap.size = N0 := ⟨_, rfl⟩
  rw [hN0] at HOW HGN
  go_wp2_with fail
  refine (next_r r _ s _ HT.out.rr).mono ?_
  rintro e w8 ⟨⟨kd, tx, ax⟩, rfl, hr, hm, hg⟩
  have hx : (⟨kd, tx, ax⟩ : Lx.Tok) = r.L.getD i9 tok0 := hg i9 _ _ rfl rfl
  have HXE := Lib.hid hx
  have HN8 : Hid (N0 ≤ w8.heap.size) := by show N0 ≤ _; have := hm.size; omega
  replace HD := Lib.hid (HD.out.step hg)
  replace HT := Lib.hid (HT.out.on hr hm)
  replace HB := Lib.hid (HB.out.on hm)
  clear hr hm hg hx hN0
  rw [after_tok] at HT HD
  unfold tkC
  have HX : Hid (TokBox r w w8.heap.size ⟨kd, tx, ax⟩ (w8.alloc (.cells #[.int .i64 kd, .string tx, .int .i64 ax] 62))) := ⟨heap_alloc_new w8 _, HT.out.up, HT.out.rb⟩
  have hbx := boxB w8 (.cells #[.int .i64 kd, .string tx, .int .i64 ax] 62)
  replace HT := Lib.hid (HT.out.on (HT.out.rr.below hbx) (Mv.of_below hbx))
  replace HB := Lib.hid (HB.out.on (Mv.of_below hbx))
  have HN0 : Hid (N0 ≤ (w8.alloc (.cells #[.int .i64 kd, .string tx, .int .i64 ax] 62)).heap.size) := by show N0 ≤ _; have := HN8.out; have := hbx.size; omega
  have HG20 : Hid (N0 ≤ w8.heap.size) := HN8
  clear hbx HN8
  obtain ⟨x0, x1, x2⟩ := HX.out.cells
  dsimp only at x0 x1 x2
  go_wp2_with fail
  clear x0 x1 x2
  have HG2 : Hid (N0 ≤ w8.heap.size) := HG20
  obtain ⟨g2, hg⟩ : ∃ g, w8.heap.size = g := ⟨_, rfl⟩
  rw [hg] at HX HG2 ⊢
  clear HG20
  generalize w8.alloc (.cells #[.int .i64 kd, .string tx, .int .i64 ax] 62) = w9 at *
  clear hg
  refine (is_r r _ s ⟨#[125]⟩ _ HT.out.rr HK.out (known_of (by decide))).mono ?_
  rintro e w10 ⟨b, rfl, hr, hm, hg, hz⟩
  have HMK := Lib.hid hg
  replace HD := Lib.hid (HD.out.step hg)
  replace HN0 : Hid (N0 ≤ _) := Nat.le_trans HN0.out hm.size
  replace HT := Lib.hid (HT.out.on hr hm)
  replace HX := Lib.hid (HX.out.on hm)
  replace HB := Lib.hid (HB.out.on hm)
  clear hr hm hg
  rw [after_is] at HT HD
  cases b
  rotate_left
  ·clear hz
   replace HD : Hid (Due P2 σ2 (stE r a t.kids ⟨kd, tx, ax⟩) (.ok i9)) := HD
   have hi1 : i9 + 1 < r.L.length := HE.out.mark hlt (HMK.out i9 _ _ rfl rfl).symm (by decide)
   go_wp2_with fail
   rename_i KK hKK
   have HKK := Lib.hid hKK
   clear hKK
   have HOG : Hid ((Value.slice q.p q.n q.cap).ownBlock ≠ some g) := fun e => by have := (HB.out.own g e).2.2.1; omega
   have HO : Hid (∀ b, (Value.slice q.p q.n q.cap).ownBlock = some b → r.b < b ∧ b < w10.heap.size ∧ g < b ∧ w.heap.size ≤ b) := HB.out.own
   have HRW : Hid (r.b < w10.heap.size) := HT.out.rr.rb
   apply wp_region_many 7 (Sx r (Value.slice q.p q.n q.cap).ownBlock 999 5) (InvX r w (Value.slice q.p q.n q.cap).ownBlock w10) (F0x r (.ok i9) s (g + 1) (.slice q.p q.n q.cap) t.kids 999 5)
   case hIS => exact fun i x y hs hi => hi.step i hs (fun b e => (HO.out b e).2.2.2)
   case hk0 => exact F0x.keeps (by have := HB.out.box.new; have := HB.out.box.old; omega) (fun b e => by have := HO.out b e; omega)
   case hm => kernel_rfl
   case hB => kernel_rfl
   case h0 => exact InvX.start HT.out.mv
   case h1 => exact F0x.start HT.out.rr HB.out.nodes
   simp only [List.take_succ_cons, List.take_zero, List.drop_succ_cons, List.drop_zero]
   apply wpMany_cons (t := tvIs (.pointer (some ⟨g, 3, none⟩))) (tvIs_goodS _ _)
   case h1 =>
    intro W hI hl
    unfold oneAt
    go_simp
    exact sx_is (by decide) (by decide)
   intro _
   rw [tvIs_f]
   go_simp
   apply wpMany_cons (t := tvIs (.slice q.p q.n q.cap)) (tvIs_goodS _ _)
   case h1 =>
    intro W hI hl
    obtain ⟨b0, b1, b2, b3⟩ := (hI.box HB.out.box HOG.out).cells
    unfold oneAt
    go_simp
    exact sx_is (by decide) (by decide)
   intro _
   rw [tvIs_f]
   go_simp
   apply wpMany_cons (t := tvIs (.int .i64 ax)) (tvIs_goodS _ _)
   case h1 =>
    intro W hI hl
    unfold oneAt
    go_simp
    exact sx_is (by decide) (by decide)
   intro _
   rw [tvIs_f]
   go_simp
   apply wpMany_cons (t := tyNodeA (fun b => N0 ≤ b) (fun u => u = Tree.mk 31 ⟨#[]⟩ ax [])) (tyNodeA_good (fun b hb => ⟨by have := HB.out.box.new; have := HB.out.box.old; have := HGN.out; omega, fun e => by have := (HOW.out b e).1; omega⟩))
   case h1 =>
    intro W hI hl
    unfold oneAt
    go_simp
    exact sx_nodeA hI (by decide) (by decide) (IsTs.isNil _ _) (rfl) (rLeaf_any (31) (⟨#[]⟩) (ax) (none) 0 0 W)
   rintro ⟨q7, t7⟩
   rw [tyNodeA_f]
   unfold ndC
   go_simp
   apply wpMany_cons (t := tyRowA (fun b => N0 ≤ b) 1 (fun l => l = [Tree.mk 31 ⟨#[]⟩ ax []])) (tyRowA_good (fun b hb => ⟨by have := HB.out.box.new; have := HB.out.box.old; have := HGN.out; omega, fun e => by have := (HOW.out b e).1; omega⟩))
   case h1 =>
    intro W hI hl
    have h7 : IsT (fun b => N0 ≤ b) W q7 t7 ∧ t7 = Tree.mk 31 ⟨#[]⟩ ax [] := hl.2 ⟨3, .data⟩ (by simp) rfl
    unfold oneAt
    go_simp
    exact sx_rowA [q7] [t7] hI (fun b hb => by have := HN0.out; omega) (by decide) (by decide) rfl rfl rfl (by decide) (by decide) (fun i a b => match i, a, b with | 0, _, _ => h7.1 | i + 1, c, _ => absurd c (by simp)) (by rw [h7.2])
   rintro ⟨g8, l8⟩
   rw [tyRowA_f]
   go_simp
   apply wpMany_cons (t := tyList (g + 1) (Value.slice q.p q.n q.cap).ownBlock w10 (fun l => l = t.kids ++ [Tree.mk 31 ⟨#[]⟩ ax []])) (tyList_good (by have := HB.out.box.new; have := HB.out.box.old; omega))
   case h1 =>
    intro W hI hl
    have hN : Nodes (g + 1) W (.slice q.p q.n q.cap) t.kids := hl.1.2 rfl
    have h8 : IsTs (fun b => N0 ≤ b) W (.slice (some ⟨g8, 0, none⟩) 1 1) l8 ∧ l8 = [Tree.mk 31 ⟨#[]⟩ ax []] := hl.2 ⟨4, .data⟩ (by simp) rfl
    exact sx_pushA rfl (.tmp 54) (.tmp 57) rfl rfl rfl hI (by decide) hN (by have := lt_heap HB.out.box.z; omega) (fun b e => (HO.out b e).2.1) (A := (fun b => N0 ≤ b)) (fun b hb => ⟨by have := HGN.out; omega, fun e => by have := (HOW.out b e).1; omega⟩) (h8.1) (by omega) (by rw [h8.2])
   rintro ⟨v9, l9⟩
   rw [tyList_f]
   go_simp
   apply wpMany_cons (t := tvIs (.pointer (some ⟨g, 3, none⟩))) (tvIs_goodS _ _)
   case h1 =>
    intro W hI hl
    unfold oneAt
    go_simp
    exact sx_is (by decide) (by decide)
   intro _
   rw [tvIs_f]
   go_simp
   apply wpMany_nil (Ts := [])
   intro w40 hI hFa
   have h5 : (999 = 999 → RrAt r (.ok i9) s w40) ∧ _ := hFa 999
   have hrr := h5.1 rfl
   have h9 : Nodes (g + 1) w40 v9 l9 ∧ (l9 = t.kids ++ [Tree.mk 31 ⟨#[]⟩ ax []]) ∧ _ := hFa 5
   obtain ⟨h9, rfl, -⟩ := h9
   obtain ⟨p7, c7, rfl, -, -⟩ := h9.slice
   obtain ⟨n7, e7⟩ : ∃ n7, (t.kids ++ [Tree.mk 31 ⟨#[]⟩ ax []]).length = n7 := ⟨_, rfl⟩
   rw [e7] at h9 ⊢
   clear e7
   have HBX := Lib.hid (hI.box HB.out.box HOG.out)
   replace HB := Lib.hid (HB.out.store HBX.out h9)
   replace HT := Lib.hid ((hI.st HT.out hrr (fun b e => by have := (HO.out b e).2.2.1; have := HBX.out.new; omega)).poke g 3 (.slice p7 n7 c7) HBX.out.new)
   have HK7 : Hid (Tree.mk t.kind t.text t.at_ (t.kids ++ [Tree.mk 31 ⟨#[]⟩ ax []]) = .mk 30 ⟨#[]⟩ a (t.kids ++ [Tree.mk 31 ⟨#[]⟩ ax []])) := by show _ = _; rw [HKT.out]; rfl
   obtain ⟨b0, b1, b2, b3⟩ := HBX.out.cells
   have fz := HBX.out.warm'
   have hf8 : (t.kids ++ [Tree.mk 31 ⟨#[]⟩ ax []]).length + f' = r.L.length + 1 := by rw [List.length_append]; simp only [List.length_cons, List.length_nil]; omega
   clear hI hFa h5 h9 hrr HO HRW HOG HKT
   go_wp2_with fail
   clear b0 b1 b2 b3 fz HBX
   generalize w40.setCell ⟨g, 3, none⟩ (.slice p7 n7 c7) = w41 at *
   obtain ⟨q8, hq8⟩ : ∃ q8 : Raw, q8 = ⟨q.kind, q.text, q.at_, p7, n7, c7⟩ := ⟨_, rfl⟩
   obtain ⟨t8, ht8⟩ : ∃ t8, t8 = Tree.mk t.kind t.text t.at_ (t.kids ++ [Tree.mk 31 ⟨#[]⟩ ax []]) := ⟨_, rfl⟩
   have hk8 : t8.kids = t.kids ++ [Tree.mk 31 ⟨#[]⟩ ax []] := by rw [ht8]; rfl
   rw [← hq8, ← ht8] at HB
   rw [← ht8, ← hk8] at HK7
   rw [← hk8] at hf8
   clear hq8 ht8
   refine HKK.out _ _ ?_
   clear HX HMK HXE HOW HGN HN0
   have hr1 : RrIn r i9 (-1) s w41 := HT.out.rr
   obtain ⟨c0, c1, c2, c3, fz⟩ := hr1.c
   have hcast : ((i9 : Int) + 1) = ((i9 + 1 : Nat) : Int) := by omega
   have hwr : IntKind.i64.wrap ((i9 : Int) + 1) = (i9 : Int) + 1 := by have := hr1.few; exact IntWalk.i64_in _ (by omega)
   have hr2 : RrAt r (.ok (i9 + 1)) s (w41.setCell ⟨r.b, 1, none⟩ (.int .i64 ((i9 : Int) + 1))) := by rw [hcast]; exact hr1.set (But.setCell w41 _ _ rfl) (heap_setCell_same w41 r.b 1 _ _ _ hr1.cells) hi1 (by omega)
   have hm2 : Mv r w41 (w41.setCell ⟨r.b, 1, none⟩ (.int .i64 ((i9 : Int) + 1))) := But.setCell w41 _ _ rfl
   clear hcast
   replace HT := Lib.hid (HT.out.on hr2 hm2)
   replace HB := Lib.hid (HB.out.on hm2)
   have hgt : Got (takeM r) (.ok i9) (r.L.getD i9 tok0) := Got.of (j := i9 + 1) rfl
   replace HD := Lib.hid (HD.out.step hgt)
   clear hr1 hr2 hm2 hgt
   replace HD := Lib.hid (HD.out.to (Q' := pureM t8) (by have h := HK7.out; rw [hk8] at h; exact congrArg pureM h.symm))
   obtain ⟨b0, b1, b2, b3⟩ := HB.out.box.cells
   have HW := Lib.hid (HT.out.ret (q := q8) (HB.out.tree))
   obtain ⟨d0, d1, d2, d3, f0⟩ := HT.out.res.cells
   try unfold ndC
   go_wp2_with fail
   obtain ⟨hcell, hist, hrr, hmv⟩ := HW.out
   exact bodyPost_ret (results_cellT rfl _ _ _ ⟨w.heap.size, 0, none⟩ _ rfl (load_node _ _ q8 hcell)) rfl (HD0.out.lift (HD.out.postP hist hrr hmv))
  clear HMK hz
  go_wp2_with fail
  refine (take_r r _ s ⟨#[108, 101, 116]⟩ _ HT.out.rr HE.out HK.out (by decide) (known_of (by decide))).mono ?_
  rintro e w11 ⟨b, rfl, hr, hm, hg, hz⟩
  have HTK := Lib.hid hg
  replace HD := Lib.hid (HD.out.step hg)
  replace HN0 : Hid (N0 ≤ _) := Nat.le_trans HN0.out hm.size
  replace HT := Lib.hid (HT.out.on hr hm)
  replace HX := Lib.hid (HX.out.on hm)
  replace HB := Lib.hid (HB.out.on hm)
  clear hr hm hg
  cases b
  rotate_left
  ·obtain ⟨i0, hi0, ha0⟩ := took_true HTK.out hz
   cases hi0
   rw [ha0] at HT HD
   clear HTK hz ha0
   have HG0 : Hid (Geq (i9 + 1) (.ok (i9 + 1))) := Geq.here _
   replace HD : Hid (Due P2 σ2 (stL2 r E t.kids (stH r E Bk a f') ⟨kd, tx, ax⟩) (.ok (i9 + 1))) := HD
   go_wp2_with fail
   refine (name_r r _ s _ HT.out.rr HE.out).mono ?_
   rintro e w12 ⟨nm, rfl, hr, hm, hg⟩
   replace HD := Lib.hid (HD.out.step hg)
   replace HN0 : Hid (N0 ≤ _) := Nat.le_trans HN0.out hm.size
   replace HT := Lib.hid (HT.out.on hr hm)
   replace HX := Lib.hid (HX.out.on hm)
   replace HB := Lib.hid (HB.out.on hm)
   clear hr hm hg
   go_wp2_with fail
   refine (need_r r _ s ⟨#[61]⟩ _ HT.out.rr HE.out HK.out (by decide) (known_of (by decide))).mono ?_
   rintro e w13 ⟨rfl, hr, hm⟩
   replace HD := Lib.hid (HD.out.step (Got.unit _ _))
   replace HN0 : Hid (N0 ≤ _) := Nat.le_trans HN0.out hm.size
   replace HT := Lib.hid (HT.out.on hr hm)
   replace HX := Lib.hid (HX.out.on hm)
   replace HB := Lib.hid (HB.out.on hm)
   clear hr hm
   replace HG0 : Hid (Geq (i9 + 1) (after (needM r ⟨#[61]⟩) (after (nameM r) (.ok (i9 + 1))))) := (HG0.out.after (ups_name r).up).after (ups_need r _).up
   generalize after (needM r ⟨#[61]⟩) (after (nameM r) (.ok (i9 + 1))) = σ13 at HT HD HG0
   have hw : IntKind.i64.wrap (lv + 1) = lv + 1 := IntWalk.i64_in _ (by omega)
   go_wp2_with fail
   have HOG : Hid ((Value.slice q.p q.n q.cap).ownBlock ≠ some g) := fun e => by have := (HB.out.own g e).2.2.1; omega
   have HO : Hid (∀ b, (Value.slice q.p q.n q.cap).ownBlock = some b → r.b < b ∧ b < w13.heap.size ∧ g < b ∧ w.heap.size ≤ b) := HB.out.own
   have HRW : Hid (r.b < w13.heap.size) := HT.out.rr.rb
   apply wp_region_many 13 (Sx r (Value.slice q.p q.n q.cap).ownBlock 7 11) (InvX r w (Value.slice q.p q.n q.cap).ownBlock w13) (F0x r σ13 s (g + 1) (.slice q.p q.n q.cap) t.kids 7 11)
   case hIS => exact fun i x y hs hi => hi.step i hs (fun b e => (HO.out b e).2.2.2)
   case hk0 => exact F0x.keeps (by have := HB.out.box.new; have := HB.out.box.old; omega) (fun b e => by have := HO.out b e; omega)
   case hm => kernel_rfl
   case hB => kernel_rfl
   case h0 => exact InvX.start HT.out.mv
   case h1 => exact F0x.start HT.out.rr HB.out.nodes
   simp only [List.take_succ_cons, List.take_zero, List.drop_succ_cons, List.drop_zero]
   apply wpMany_cons (t := tvIs (.pointer (some ⟨g, 3, none⟩))) (tvIs_goodS _ _)
   case h1 =>
    intro W hI hl
    unfold oneAt
    go_simp
    exact sx_is (by decide) (by decide)
   intro _
   rw [tvIs_f]
   go_simp
   apply wpMany_cons (t := tvIs (.slice q.p q.n q.cap)) (tvIs_goodS _ _)
   case h1 =>
    intro W hI hl
    obtain ⟨b0, b1, b2, b3⟩ := (hI.box HB.out.box HOG.out).cells
    unfold oneAt
    go_simp
    exact sx_is (by decide) (by decide)
   intro _
   rw [tvIs_f]
   go_simp
   apply wpMany_cons (t := tvIs (.string nm)) (tvIs_goodS _ _)
   case h1 =>
    intro W hI hl
    unfold oneAt
    go_simp
    exact sx_is (by decide) (by decide)
   intro _
   rw [tvIs_f]
   go_simp
   apply wpMany_cons (t := tvIs (.int .i64 ax)) (tvIs_goodS _ _)
   case h1 =>
    intro W hI hl
    unfold oneAt
    go_simp
    exact sx_is (by decide) (by decide)
   intro _
   rw [tvIs_f]
   go_simp
   apply wpMany_cons (t := tvIs (.pointer (some ⟨r.b, 0, none⟩))) (tvIs_goodS _ _)
   case h1 =>
    intro W hI hl
    unfold oneAt
    go_simp
    exact sx_is (by decide) (by decide)
   intro _
   rw [tvIs_f]
   go_simp
   apply wpMany_cons (t := tvIs (.int .i64 lv)) (tvIs_goodS _ _)
   case h1 =>
    intro W hI hl
    unfold oneAt
    go_simp
    exact sx_is (by decide) (by decide)
   intro _
   rw [tvIs_f]
   go_simp
   apply wpMany_cons (t := tvIs (.int .i64 (lv + 1))) (tvIs_goodS _ _)
   case h1 =>
    intro W hI hl
    have hw : IntKind.i64.wrap (lv + 1) = lv + 1 := IntWalk.i64_in _ (by omega)
    unfold oneAt
    go_simp
    try rw [hw]
    exact sx_is (by decide) (by decide)
   intro _
   rw [tvIs_f]
   go_simp
   apply wpMany_cons (t := tyCall r w13 (E) σ13 s) (tyCall_good HRW.out (fun b e => by have := HO.out b e; omega))
   case h1 =>
    intro W hI hl
    have hr : RrAt r σ13 s W := hl.1.1 rfl
    unfold oneAt
    go_simp
    exact sx_call hI (HEX.out _ W HOK.out hr)
   rintro ⟨q5, t5⟩
   rw [tyCall_f]
   unfold ndC
   go_simp
   apply wpMany_cons (t := tyRowA (fun b => N0 ≤ b) 1 (fun l => ∃ e, l = [e] ∧ Got (E) σ13 e)) (tyRowA_good (fun b hb => ⟨by have := HB.out.box.new; have := HB.out.box.old; have := HGN.out; omega, fun e => by have := (HOW.out b e).1; omega⟩))
   case h1 =>
    intro W hI hl
    have h5 : IsT (fun b => w13.heap.size ≤ b) W q5 t5 ∧ RrAt r (after (E) σ13) s W ∧ Got (E) σ13 t5 := hl.2 ⟨7, .data⟩ (by simp) rfl
    unfold oneAt
    go_simp
    exact sx_rowA [q5] [t5] hI (fun b hb => by have := HN0.out; omega) (by decide) (by decide) rfl rfl rfl (by decide) (by decide) (fun i a b => match i, a, b with | 0, _, _ => h5.1.mono (fun b hb => by have := HN0.out; omega) | i + 1, c, _ => absurd c (by simp)) (⟨t5, rfl, h5.2.2⟩)
   rintro ⟨g6, l6⟩
   rw [tyRowA_f]
   go_simp
   apply wpMany_cons (t := tyNodeA (fun b => N0 ≤ b) (fun u => ∃ e, u = Tree.mk 32 nm ax [e] ∧ Got (E) σ13 e)) (tyNodeA_good (fun b hb => ⟨by have := HB.out.box.new; have := HB.out.box.old; have := HGN.out; omega, fun e => by have := (HOW.out b e).1; omega⟩))
   case h1 =>
    intro W hI hl
    have h6 : IsTs (fun b => N0 ≤ b) W (.slice (some ⟨g6, 0, none⟩) 1 1) l6 ∧ ∃ e, l6 = [e] ∧ Got (E) σ13 e := hl.2 ⟨8, .data⟩ (by simp) rfl
    unfold oneAt
    go_simp
    exact sx_nodeA hI (by decide) (by decide) (h6.1) (by obtain ⟨e, he, hg⟩ := h6.2; exact ⟨e, by rw [he], hg⟩) (rLeaf_any (32) (nm) (ax) (some ⟨g6, 0, none⟩) 1 1 W)
   rintro ⟨q7, t7⟩
   rw [tyNodeA_f]
   unfold ndC
   go_simp
   apply wpMany_cons (t := tyRowA (fun b => N0 ≤ b) 1 (fun l => ∃ e, l = [Tree.mk 32 nm ax [e]] ∧ Got (E) σ13 e)) (tyRowA_good (fun b hb => ⟨by have := HB.out.box.new; have := HB.out.box.old; have := HGN.out; omega, fun e => by have := (HOW.out b e).1; omega⟩))
   case h1 =>
    intro W hI hl
    have h7 : IsT (fun b => N0 ≤ b) W q7 t7 ∧ ∃ e, t7 = Tree.mk 32 nm ax [e] ∧ Got (E) σ13 e := hl.2 ⟨9, .data⟩ (by simp) rfl
    unfold oneAt
    go_simp
    exact sx_rowA [q7] [t7] hI (fun b hb => by have := HN0.out; omega) (by decide) (by decide) rfl rfl rfl (by decide) (by decide) (fun i a b => match i, a, b with | 0, _, _ => h7.1 | i + 1, c, _ => absurd c (by simp)) (by obtain ⟨e, he, hg⟩ := h7.2; exact ⟨e, by rw [he], hg⟩)
   rintro ⟨g8, l8⟩
   rw [tyRowA_f]
   go_simp
   apply wpMany_cons (t := tyList (g + 1) (Value.slice q.p q.n q.cap).ownBlock w13 (fun l => ∃ e, l = t.kids ++ [Tree.mk 32 nm ax [e]] ∧ Got (E) σ13 e)) (tyList_good (by have := HB.out.box.new; have := HB.out.box.old; omega))
   case h1 =>
    intro W hI hl
    have hN : Nodes (g + 1) W (.slice q.p q.n q.cap) t.kids := hl.1.2 rfl
    have h8 : IsTs (fun b => N0 ≤ b) W (.slice (some ⟨g8, 0, none⟩) 1 1) l8 ∧ ∃ e, l8 = [Tree.mk 32 nm ax [e]] ∧ Got (E) σ13 e := hl.2 ⟨10, .data⟩ (by simp) rfl
    exact sx_pushA rfl (.tmp 76) (.tmp 85) rfl rfl rfl hI (by decide) hN (by have := lt_heap HB.out.box.z; omega) (fun b e => (HO.out b e).2.1) (A := (fun b => N0 ≤ b)) (fun b hb => ⟨by have := HGN.out; omega, fun e => by have := (HOW.out b e).1; omega⟩) (h8.1) (by omega) (by obtain ⟨e, he, hg⟩ := h8.2; exact ⟨e, by rw [he], hg⟩)
   rintro ⟨v9, l9⟩
   rw [tyList_f]
   go_simp
   apply wpMany_cons (t := tvIs (.pointer (some ⟨g, 3, none⟩))) (tvIs_goodS _ _)
   case h1 =>
    intro W hI hl
    unfold oneAt
    go_simp
    exact sx_is (by decide) (by decide)
   intro _
   rw [tvIs_f]
   go_simp
   apply wpMany_nil (Ts := [])
   intro w40 hI hFa
   have h5 : IsT (fun b => w13.heap.size ≤ b) w40 q5 t5 ∧ RrAt r (after (E) σ13) s w40 ∧ Got (E) σ13 t5 := hFa 7
   have hrr := h5.2.1
   have h9 : Nodes (g + 1) w40 v9 l9 ∧ (∃ e, l9 = t.kids ++ [Tree.mk 32 nm ax [e]] ∧ Got (E) σ13 e) ∧ _ := hFa 11
   obtain ⟨h9, ⟨e6, rfl, hg6⟩, -⟩ := h9
   obtain ⟨p7, c7, rfl, -, -⟩ := h9.slice
   obtain ⟨n7, e7⟩ : ∃ n7, (t.kids ++ [Tree.mk 32 nm ax [e6]]).length = n7 := ⟨_, rfl⟩
   rw [e7] at h9 ⊢
   clear e7
   replace HD := Lib.hid (HD.out.step hg6)
   have HBX := Lib.hid (hI.box HB.out.box HOG.out)
   replace HB := Lib.hid (HB.out.store HBX.out h9)
   replace HT := Lib.hid ((hI.st HT.out hrr (fun b e => by have := (HO.out b e).2.2.1; have := HBX.out.new; omega)).poke g 3 (.slice p7 n7 c7) HBX.out.new)
   have HK7 : Hid (Tree.mk t.kind t.text t.at_ (t.kids ++ [Tree.mk 32 nm ax [e6]]) = .mk 30 ⟨#[]⟩ a (t.kids ++ [Tree.mk 32 nm ax [e6]])) := by show _ = _; rw [HKT.out]; rfl
   obtain ⟨b0, b1, b2, b3⟩ := HBX.out.cells
   have fz := HBX.out.warm'
   have hf8 : (t.kids ++ [Tree.mk 32 nm ax [e6]]).length + f' = r.L.length + 1 := by rw [List.length_append]; simp only [List.length_cons, List.length_nil]; omega
   clear hI hFa h5 h9 hrr HO HRW HOG HKT
   go_wp2_with fail
   clear b0 b1 b2 b3 fz HBX
   generalize w40.setCell ⟨g, 3, none⟩ (.slice p7 n7 c7) = w41 at *
   obtain ⟨q8, hq8⟩ : ∃ q8 : Raw, q8 = ⟨q.kind, q.text, q.at_, p7, n7, c7⟩ := ⟨_, rfl⟩
   obtain ⟨t8, ht8⟩ : ∃ t8, t8 = Tree.mk t.kind t.text t.at_ (t.kids ++ [Tree.mk 32 nm ax [e6]]) := ⟨_, rfl⟩
   have hk8 : t8.kids = t.kids ++ [Tree.mk 32 nm ax [e6]] := by rw [ht8]; rfl
   rw [← hq8, ← ht8] at HB
   rw [← ht8, ← hk8] at HK7
   rw [← hk8] at hf8
   clear hq8 ht8
   refine (need_r r _ s ⟨#[59]⟩ _ HT.out.rr HE.out HK.out (by decide) (known_of (by decide))).mono ?_
   rintro e w42 ⟨rfl, hr, hm⟩
   replace HD := Lib.hid (HD.out.step (Got.unit _ _))
   replace HT := Lib.hid (HT.out.on hr hm)
   replace HB := Lib.hid (HB.out.on hm)
   clear hr hm
   have HGE : Hid (Geq (i9 + 1) (after (needM r ⟨#[59]⟩) (after E σ13))) := (HG0.out.after hupE.up).after (ups_need r _).up
   generalize after (needM r ⟨#[59]⟩) (after E σ13) = σ42 at HT HD HGE
   replace HD : Hid (Due P2 σ2 (stH r E Bk a f' t8.kids) σ42) := by rw [hk8]; exact HD
   have hrm := roomOf_eq HT.out.rr
   go_wp2_with fail
   go_roundw
   case rel => exact ⟨f', q8, t8, σ42, HT.out, HB.out, HD.out, HK7.out, by first | exact hf8 | (rw [hk8]; exact hf8) | (rw [hk8]; simpa using hf8), fun i e => by have := HGE.out i e; omega⟩
   case measure =>
    rw [hrm, HRM.out]
    cases σ42 with
    | ok j => have := HGE.out j rfl; have := HT.out.rr.lt; simp only [room]; omega
    | error k => simp only [room]; omega
  rw [took_false HTK.out] at HT HD
  clear HTK hz
  obtain ⟨x0, x1, x2⟩ := HX.out.cells
  dsimp only at x0 x1 x2
  by_cases hk1 : kd = 1
  ·subst hk1
   replace HD := Lib.hid (HD.out.to (show stA r E Bk a t.kids (stH r E Bk a f') ⟨1, tx, ax⟩ = _ from if_pos rfl))
   go_wp2_with fail
   clear x0 x1 x2
   refine (aft_r r _ s ⟨#[61]⟩ _ HT.out.rr).mono ?_
   rintro e w15 ⟨b, rfl, hr, hm, hg⟩
   replace HD := Lib.hid (HD.out.step hg)
   replace HN0 : Hid (N0 ≤ _) := Nat.le_trans HN0.out hm.size
   replace HT := Lib.hid (HT.out.on hr hm)
   replace HX := Lib.hid (HX.out.on hm)
   replace HB := Lib.hid (HB.out.on hm)
   have HGA := Lib.hid hg
   clear hr hm hg
   rw [after_aft] at HT HD
   cases b
   rotate_left
   ·have hia : isAft r i9 ⟨#[61]⟩ = true := (HGA.out i9 _ _ rfl rfl).symm
    have hi2 : i9 + 2 < r.L.length := by
     unfold isAft at hia
     simp only [Bool.and_eq_true, decide_eq_true_eq] at hia
     exact HE.out.mark hia.1.1 hia.2 (by decide)
    replace HD : Hid (Due P2 σ2 (stA2 r E t.kids (stH r E Bk a f') ⟨1, tx, ax⟩) (.ok i9)) := HD
    have hr1 : RrIn r i9 (-1) s w15 := HT.out.rr
    obtain ⟨c0, c1, c2, c3, fz⟩ := hr1.c
    have hcast : ((i9 : Int) + 2) = ((i9 + 2 : Nat) : Int) := by omega
    have hwr : IntKind.i64.wrap ((i9 : Int) + 2) = (i9 : Int) + 2 := by have := hr1.few; exact IntWalk.i64_in _ (by omega)
    have hr2 : RrAt r (.ok (i9 + 2)) s (w15.setCell ⟨r.b, 1, none⟩ (.int .i64 ((i9 : Int) + 2))) := by rw [hcast]; exact hr1.set (But.setCell w15 _ _ rfl) (heap_setCell_same w15 r.b 1 _ _ _ hr1.cells) hi2 (by omega)
    have hm2 : Mv r w15 (w15.setCell ⟨r.b, 1, none⟩ (.int .i64 ((i9 : Int) + 2))) := But.setCell w15 _ _ rfl
    replace HN0 : Hid (N0 ≤ _) := Nat.le_trans HN0.out hm2.size
    replace HT := Lib.hid (HT.out.on hr2 hm2)
    replace HX := Lib.hid (HX.out.on hm2)
    replace HB := Lib.hid (HB.out.on hm2)
    have hgt : Got (takeM r) (.ok i9) (r.L.getD i9 tok0) := Got.of (j := i9 + 1) rfl
    replace HD := Lib.hid (HD.out.step hgt)
    have hgt2 : Got (takeM r) (after (takeM r) (.ok i9)) (r.L.getD (i9 + 1) tok0) := Got.of (i := i9 + 1) (j := i9 + 2) rfl
    replace HD := Lib.hid (HD.out.step hgt2)
    replace HD := Lib.hid (HD.out.at_ (show after (takeM r) (after (takeM r) (.ok i9)) = .ok (i9 + 2) from rfl))
    have hw : IntKind.i64.wrap (lv + 1) = lv + 1 := IntWalk.i64_in _ (by omega)
    clear hr1 hr2 hm2 hgt hgt2 hcast hia HGA
    go_wp2_with fail
    clear c0 c1 c2 c3 fz hwr
    generalize w15.setCell ⟨r.b, 1, none⟩ (.int .i64 ((i9 : Int) + 2)) = w16 at *
    have HOG2 : Hid ((Value.slice q.p q.n q.cap).ownBlock ≠ some g2) := fun e => by have := (HOW.out g2 e).1; have := HG2.out; omega
    have HOG : Hid ((Value.slice q.p q.n q.cap).ownBlock ≠ some g) := fun e => by have := (HB.out.own g e).2.2.1; omega
    have HO : Hid (∀ b, (Value.slice q.p q.n q.cap).ownBlock = some b → r.b < b ∧ b < w16.heap.size ∧ g < b ∧ w.heap.size ≤ b) := HB.out.own
    have HRW : Hid (r.b < w16.heap.size) := HT.out.rr.rb
    apply wp_region_many 14 (Sx r (Value.slice q.p q.n q.cap).ownBlock 8 12) (InvX r w (Value.slice q.p q.n q.cap).ownBlock w16) (F0x r (.ok (i9 + 2)) s (g + 1) (.slice q.p q.n q.cap) t.kids 8 12)
    case hIS => exact fun i x y hs hi => hi.step i hs (fun b e => (HO.out b e).2.2.2)
    case hk0 => exact F0x.keeps (by have := HB.out.box.new; have := HB.out.box.old; omega) (fun b e => by have := HO.out b e; omega)
    case hm => kernel_rfl
    case hB => kernel_rfl
    case h0 => exact InvX.start HT.out.mv
    case h1 => exact F0x.start HT.out.rr HB.out.nodes
    simp only [List.take_succ_cons, List.take_zero, List.drop_succ_cons, List.drop_zero]
    apply wpMany_cons (t := tvIs (.pointer (some ⟨g, 3, none⟩))) (tvIs_goodS _ _)
    case h1 =>
     intro W hI hl
     unfold oneAt
     go_simp
     exact sx_is (by decide) (by decide)
    intro _
    rw [tvIs_f]
    go_simp
    apply wpMany_cons (t := tvIs (.slice q.p q.n q.cap)) (tvIs_goodS _ _)
    case h1 =>
     intro W hI hl
     obtain ⟨b0, b1, b2, b3⟩ := (hI.box HB.out.box HOG.out).cells
     unfold oneAt
     go_simp
     exact sx_is (by decide) (by decide)
    intro _
    rw [tvIs_f]
    go_simp
    apply wpMany_cons (t := tvIs (.pointer (some ⟨g2, 1, none⟩))) (tvIs_goodS _ _)
    case h1 =>
     intro W hI hl
     unfold oneAt
     go_simp
     exact sx_is (by decide) (by decide)
    intro _
    rw [tvIs_f]
    go_simp
    apply wpMany_cons (t := tvIs (.string tx)) (tvIs_goodS _ _)
    case h1 =>
     intro W hI hl
     obtain ⟨x0, x1, x2⟩ := (hI.tok HX.out HOG2.out).cells
     dsimp only at x0 x1 x2
     unfold oneAt
     go_simp
     exact sx_is (by decide) (by decide)
    intro _
    rw [tvIs_f]
    go_simp
    apply wpMany_cons (t := tvIs (.int .i64 ax)) (tvIs_goodS _ _)
    case h1 =>
     intro W hI hl
     unfold oneAt
     go_simp
     exact sx_is (by decide) (by decide)
    intro _
    rw [tvIs_f]
    go_simp
    apply wpMany_cons (t := tvIs (.pointer (some ⟨r.b, 0, none⟩))) (tvIs_goodS _ _)
    case h1 =>
     intro W hI hl
     unfold oneAt
     go_simp
     exact sx_is (by decide) (by decide)
    intro _
    rw [tvIs_f]
    go_simp
    apply wpMany_cons (t := tvIs (.int .i64 lv)) (tvIs_goodS _ _)
    case h1 =>
     intro W hI hl
     unfold oneAt
     go_simp
     exact sx_is (by decide) (by decide)
    intro _
    rw [tvIs_f]
    go_simp
    apply wpMany_cons (t := tvIs (.int .i64 (lv + 1))) (tvIs_goodS _ _)
    case h1 =>
     intro W hI hl
     have hw : IntKind.i64.wrap (lv + 1) = lv + 1 := IntWalk.i64_in _ (by omega)
     unfold oneAt
     go_simp
     try rw [hw]
     exact sx_is (by decide) (by decide)
    intro _
    rw [tvIs_f]
    go_simp
    apply wpMany_cons (t := tyCall r w16 (E) (.ok (i9 + 2)) s) (tyCall_good HRW.out (fun b e => by have := HO.out b e; omega))
    case h1 =>
     intro W hI hl
     have hr : RrAt r (.ok (i9 + 2)) s W := hl.1.1 rfl
     unfold oneAt
     go_simp
     exact sx_call hI (HEX.out _ W HOK.out hr)
    rintro ⟨q5, t5⟩
    rw [tyCall_f]
    unfold ndC
    go_simp
    apply wpMany_cons (t := tyRowA (fun b => N0 ≤ b) 1 (fun l => ∃ e, l = [e] ∧ Got (E) (.ok (i9 + 2)) e)) (tyRowA_good (fun b hb => ⟨by have := HB.out.box.new; have := HB.out.box.old; have := HGN.out; omega, fun e => by have := (HOW.out b e).1; omega⟩))
    case h1 =>
     intro W hI hl
     have h5 : IsT (fun b => w16.heap.size ≤ b) W q5 t5 ∧ RrAt r (after (E) (.ok (i9 + 2))) s W ∧ Got (E) (.ok (i9 + 2)) t5 := hl.2 ⟨8, .data⟩ (by simp) rfl
     unfold oneAt
     go_simp
     exact sx_rowA [q5] [t5] hI (fun b hb => by have := HN0.out; omega) (by decide) (by decide) rfl rfl rfl (by decide) (by decide) (fun i a b => match i, a, b with | 0, _, _ => h5.1.mono (fun b hb => by have := HN0.out; omega) | i + 1, c, _ => absurd c (by simp)) (⟨t5, rfl, h5.2.2⟩)
    rintro ⟨g6, l6⟩
    rw [tyRowA_f]
    go_simp
    apply wpMany_cons (t := tyNodeA (fun b => N0 ≤ b) (fun u => ∃ e, u = Tree.mk 33 tx ax [e] ∧ Got (E) (.ok (i9 + 2)) e)) (tyNodeA_good (fun b hb => ⟨by have := HB.out.box.new; have := HB.out.box.old; have := HGN.out; omega, fun e => by have := (HOW.out b e).1; omega⟩))
    case h1 =>
     intro W hI hl
     have h6 : IsTs (fun b => N0 ≤ b) W (.slice (some ⟨g6, 0, none⟩) 1 1) l6 ∧ ∃ e, l6 = [e] ∧ Got (E) (.ok (i9 + 2)) e := hl.2 ⟨9, .data⟩ (by simp) rfl
     unfold oneAt
     go_simp
     exact sx_nodeA hI (by decide) (by decide) (h6.1) (by obtain ⟨e, he, hg⟩ := h6.2; exact ⟨e, by rw [he], hg⟩) (rLeaf_any (33) (tx) (ax) (some ⟨g6, 0, none⟩) 1 1 W)
    rintro ⟨q7, t7⟩
    rw [tyNodeA_f]
    unfold ndC
    go_simp
    apply wpMany_cons (t := tyRowA (fun b => N0 ≤ b) 1 (fun l => ∃ e, l = [Tree.mk 33 tx ax [e]] ∧ Got (E) (.ok (i9 + 2)) e)) (tyRowA_good (fun b hb => ⟨by have := HB.out.box.new; have := HB.out.box.old; have := HGN.out; omega, fun e => by have := (HOW.out b e).1; omega⟩))
    case h1 =>
     intro W hI hl
     have h7 : IsT (fun b => N0 ≤ b) W q7 t7 ∧ ∃ e, t7 = Tree.mk 33 tx ax [e] ∧ Got (E) (.ok (i9 + 2)) e := hl.2 ⟨10, .data⟩ (by simp) rfl
     unfold oneAt
     go_simp
     exact sx_rowA [q7] [t7] hI (fun b hb => by have := HN0.out; omega) (by decide) (by decide) rfl rfl rfl (by decide) (by decide) (fun i a b => match i, a, b with | 0, _, _ => h7.1 | i + 1, c, _ => absurd c (by simp)) (by obtain ⟨e, he, hg⟩ := h7.2; exact ⟨e, by rw [he], hg⟩)
    rintro ⟨g8, l8⟩
    rw [tyRowA_f]
    go_simp
    apply wpMany_cons (t := tyList (g + 1) (Value.slice q.p q.n q.cap).ownBlock w16 (fun l => ∃ e, l = t.kids ++ [Tree.mk 33 tx ax [e]] ∧ Got (E) (.ok (i9 + 2)) e)) (tyList_good (by have := HB.out.box.new; have := HB.out.box.old; omega))
    case h1 =>
     intro W hI hl
     have hN : Nodes (g + 1) W (.slice q.p q.n q.cap) t.kids := hl.1.2 rfl
     have h8 : IsTs (fun b => N0 ≤ b) W (.slice (some ⟨g8, 0, none⟩) 1 1) l8 ∧ ∃ e, l8 = [Tree.mk 33 tx ax [e]] ∧ Got (E) (.ok (i9 + 2)) e := hl.2 ⟨11, .data⟩ (by simp) rfl
     exact sx_pushA rfl (.tmp 106) (.tmp 116) rfl rfl rfl hI (by decide) hN (by have := lt_heap HB.out.box.z; omega) (fun b e => (HO.out b e).2.1) (A := (fun b => N0 ≤ b)) (fun b hb => ⟨by have := HGN.out; omega, fun e => by have := (HOW.out b e).1; omega⟩) (h8.1) (by omega) (by obtain ⟨e, he, hg⟩ := h8.2; exact ⟨e, by rw [he], hg⟩)
    rintro ⟨v9, l9⟩
    rw [tyList_f]
    go_simp
    apply wpMany_cons (t := tvIs (.pointer (some ⟨g, 3, none⟩))) (tvIs_goodS _ _)
    case h1 =>
     intro W hI hl
     unfold oneAt
     go_simp
     exact sx_is (by decide) (by decide)
    intro _
    rw [tvIs_f]
    go_simp
    apply wpMany_nil (Ts := [])
    intro w40 hI hFa
    have h5 : IsT (fun b => w16.heap.size ≤ b) w40 q5 t5 ∧ RrAt r (after (E) (.ok (i9 + 2))) s w40 ∧ Got (E) (.ok (i9 + 2)) t5 := hFa 8
    have hrr := h5.2.1
    have h9 : Nodes (g + 1) w40 v9 l9 ∧ (∃ e, l9 = t.kids ++ [Tree.mk 33 tx ax [e]] ∧ Got (E) (.ok (i9 + 2)) e) ∧ _ := hFa 12
    obtain ⟨h9, ⟨e6, rfl, hg6⟩, -⟩ := h9
    obtain ⟨p7, c7, rfl, -, -⟩ := h9.slice
    obtain ⟨n7, e7⟩ : ∃ n7, (t.kids ++ [Tree.mk 33 tx ax [e6]]).length = n7 := ⟨_, rfl⟩
    rw [e7] at h9 ⊢
    clear e7
    replace HD := Lib.hid (HD.out.step hg6)
    have HBX := Lib.hid (hI.box HB.out.box HOG.out)
    replace HB := Lib.hid (HB.out.store HBX.out h9)
    replace HT := Lib.hid ((hI.st HT.out hrr (fun b e => by have := (HO.out b e).2.2.1; have := HBX.out.new; omega)).poke g 3 (.slice p7 n7 c7) HBX.out.new)
    have HK7 : Hid (Tree.mk t.kind t.text t.at_ (t.kids ++ [Tree.mk 33 tx ax [e6]]) = .mk 30 ⟨#[]⟩ a (t.kids ++ [Tree.mk 33 tx ax [e6]])) := by show _ = _; rw [HKT.out]; rfl
    obtain ⟨b0, b1, b2, b3⟩ := HBX.out.cells
    have fz := HBX.out.warm'
    have hf8 : (t.kids ++ [Tree.mk 33 tx ax [e6]]).length + f' = r.L.length + 1 := by rw [List.length_append]; simp only [List.length_cons, List.length_nil]; omega
    clear hI hFa h5 h9 hrr HO HRW HOG HKT
    go_wp2_with fail
    clear b0 b1 b2 b3 fz HBX
    generalize w40.setCell ⟨g, 3, none⟩ (.slice p7 n7 c7) = w41 at *
    obtain ⟨q8, hq8⟩ : ∃ q8 : Raw, q8 = ⟨q.kind, q.text, q.at_, p7, n7, c7⟩ := ⟨_, rfl⟩
    obtain ⟨t8, ht8⟩ : ∃ t8, t8 = Tree.mk t.kind t.text t.at_ (t.kids ++ [Tree.mk 33 tx ax [e6]]) := ⟨_, rfl⟩
    have hk8 : t8.kids = t.kids ++ [Tree.mk 33 tx ax [e6]] := by rw [ht8]; rfl
    rw [← hq8, ← ht8] at HB
    rw [← ht8, ← hk8] at HK7
    rw [← hk8] at hf8
    clear hq8 ht8
    refine (need_r r _ s ⟨#[59]⟩ _ HT.out.rr HE.out HK.out (by decide) (known_of (by decide))).mono ?_
    rintro e w42 ⟨rfl, hr, hm⟩
    replace HD := Lib.hid (HD.out.step (Got.unit _ _))
    replace HT := Lib.hid (HT.out.on hr hm)
    replace HB := Lib.hid (HB.out.on hm)
    clear hr hm
    have HGE : Hid (Geq (i9 + 1) (after (needM r ⟨#[59]⟩) (after E (.ok (i9 + 2))))) := ((Geq.after (show Geq (i9 + 1) (.ok (i9 + 2)) from fun j e => by cases e; omega) hupE.up)).after (ups_need r _).up
    generalize after (needM r ⟨#[59]⟩) (after E (.ok (i9 + 2))) = σ42 at HT HD HGE
    replace HD : Hid (Due P2 σ2 (stH r E Bk a f' t8.kids) σ42) := by rw [hk8]; exact HD
    have hrm := roomOf_eq HT.out.rr
    go_wp2_with fail
    go_roundw
    case rel => exact ⟨f', q8, t8, σ42, HT.out, HB.out, HD.out, HK7.out, by first | exact hf8 | (rw [hk8]; exact hf8) | (rw [hk8]; simpa using hf8), fun i e => by have := HGE.out i e; omega⟩
    case measure =>
     rw [hrm, HRM.out]
     cases σ42 with
     | ok j => have := HGE.out j rfl; have := HT.out.rr.lt; simp only [room]; omega
     | error k => simp only [room]; omega
   clear HGA
   go_wp2_with fail
   refine (take_r r _ s ⟨#[119, 104, 105, 108, 101]⟩ _ HT.out.rr HE.out HK.out (by decide) (known_of (by decide))).mono ?_
   rintro e w17 ⟨b, rfl, hr, hm, hg, hz⟩
   have HTK := Lib.hid hg
   replace HD := Lib.hid (HD.out.step hg)
   replace HN0 : Hid (N0 ≤ _) := Nat.le_trans HN0.out hm.size
   replace HT := Lib.hid (HT.out.on hr hm)
   replace HX := Lib.hid (HX.out.on hm)
   replace HB := Lib.hid (HB.out.on hm)
   clear hr hm hg
   cases b
   rotate_left
   ·obtain ⟨i0, hi0, ha0⟩ := took_true HTK.out hz
    cases hi0
    rw [ha0] at HT HD
    clear HTK hz ha0
    have HG0 : Hid (Geq (i9 + 1) (.ok (i9 + 1))) := Geq.here _
    have hw : IntKind.i64.wrap (lv + 1) = lv + 1 := IntWalk.i64_in _ (by omega)
    go_wp2_with fail
    refine (HEX.out _ _ HOK.out HT.out.rr).mono ?_
    rintro e w18 ⟨q1, t1, rfl, ht, hr, hm, hg⟩
    have HI := Lib.hid (ht.mono (A' := fun b => N0 ≤ b) (fun b hb => Nat.le_trans HN0.out hb))
    replace HD := Lib.hid (HD.out.step hg)
    replace HN0 : Hid (N0 ≤ _) := Nat.le_trans HN0.out hm.size
    replace HT := Lib.hid (HT.out.on hr hm)
    replace HX := Lib.hid (HX.out.on hm)
    replace HB := Lib.hid (HB.out.on hm)
    clear hr hm hg ht
    replace HG0 : Hid (Geq (i9 + 1) (after E (.ok (i9 + 1)))) := HG0.out.after hupE.up
    generalize after E (.ok (i9 + 1)) = σ18 at HT HD HG0
    unfold ndC
    go_wp2_with fail
    have HV := Lib.hid (VarA.first HT.out HI.out)
    have hbx := boxB w18 (.cells (ndC q1) 40)
    have HG3 := HN0
    replace HN0 : Hid (N0 ≤ _) := Nat.le_trans HN0.out hbx.size
    replace HT := Lib.hid (HT.out.on (HT.out.rr.below hbx) (Mv.of_below hbx))
    replace HX := Lib.hid (HX.out.on (Mv.of_below hbx))
    replace HB := Lib.hid (HB.out.on (Mv.of_below hbx))
    clear hbx HI
    unfold ndC at HV HT HX HB HN0
    obtain ⟨g3, hg⟩ : ∃ g, w18.heap.size = g := ⟨_, rfl⟩
    rw [hg] at HV HG3 ⊢
    generalize w18.alloc (.cells #[.int .i64 q1.kind, .string q1.text, .int .i64 q1.at_, .slice q1.p q1.n q1.cap] 40) = w19 at *
    clear hg
    have HOG3 : Hid ((Value.slice q.p q.n q.cap).ownBlock ≠ some g3) := fun e => by have := (HOW.out g3 e).1; have := HG3.out; omega
    have HOG : Hid ((Value.slice q.p q.n q.cap).ownBlock ≠ some g) := fun e => by have := (HB.out.own g e).2.2.1; omega
    have HO : Hid (∀ b, (Value.slice q.p q.n q.cap).ownBlock = some b → r.b < b ∧ b < w19.heap.size ∧ g < b ∧ w.heap.size ≤ b) := HB.out.own
    have HRW : Hid (r.b < w19.heap.size) := HT.out.rr.rb
    apply wp_region_many 13 (Sx r (Value.slice q.p q.n q.cap).ownBlock 7 11) (InvX r w (Value.slice q.p q.n q.cap).ownBlock w19) (F0x r σ18 s (g + 1) (.slice q.p q.n q.cap) t.kids 7 11)
    case hIS => exact fun i x y hs hi => hi.step i hs (fun b e => (HO.out b e).2.2.2)
    case hk0 => exact F0x.keeps (by have := HB.out.box.new; have := HB.out.box.old; omega) (fun b e => by have := HO.out b e; omega)
    case hm => kernel_rfl
    case hB => kernel_rfl
    case h0 => exact InvX.start HT.out.mv
    case h1 => exact F0x.start HT.out.rr HB.out.nodes
    simp only [List.take_succ_cons, List.take_zero, List.drop_succ_cons, List.drop_zero]
    apply wpMany_cons (t := tvIs (.pointer (some ⟨g, 3, none⟩))) (tvIs_goodS _ _)
    case h1 =>
     intro W hI hl
     unfold oneAt
     go_simp
     exact sx_is (by decide) (by decide)
    intro _
    rw [tvIs_f]
    go_simp
    apply wpMany_cons (t := tvIs (.slice q.p q.n q.cap)) (tvIs_goodS _ _)
    case h1 =>
     intro W hI hl
     obtain ⟨b0, b1, b2, b3⟩ := (hI.box HB.out.box HOG.out).cells
     unfold oneAt
     go_simp
     exact sx_is (by decide) (by decide)
    intro _
    rw [tvIs_f]
    go_simp
    apply wpMany_cons (t := tvIs (.int .i64 ax)) (tvIs_goodS _ _)
    case h1 =>
     intro W hI hl
     unfold oneAt
     go_simp
     exact sx_is (by decide) (by decide)
    intro _
    rw [tvIs_f]
    go_simp
    apply wpMany_cons (t := tvIs (.agg #[.int .i64 q1.kind, .string q1.text, .int .i64 q1.at_, .slice q1.p q1.n q1.cap])) (tvIs_goodS _ _)
    case h1 =>
     intro W hI hl
     obtain ⟨b0, b1, b2, b3⟩ := (hI.box HV.out.box HOG3.out).cells
     unfold oneAt
     go_simp
     exact sx_is (by decide) (by decide)
    intro _
    rw [tvIs_f]
    go_simp
    apply wpMany_cons (t := tvIs (.pointer (some ⟨r.b, 0, none⟩))) (tvIs_goodS _ _)
    case h1 =>
     intro W hI hl
     unfold oneAt
     go_simp
     exact sx_is (by decide) (by decide)
    intro _
    rw [tvIs_f]
    go_simp
    apply wpMany_cons (t := tvIs (.int .i64 lv)) (tvIs_goodS _ _)
    case h1 =>
     intro W hI hl
     unfold oneAt
     go_simp
     exact sx_is (by decide) (by decide)
    intro _
    rw [tvIs_f]
    go_simp
    apply wpMany_cons (t := tvIs (.int .i64 (lv + 1))) (tvIs_goodS _ _)
    case h1 =>
     intro W hI hl
     have hw : IntKind.i64.wrap (lv + 1) = lv + 1 := IntWalk.i64_in _ (by omega)
     unfold oneAt
     go_simp
     try rw [hw]
     exact sx_is (by decide) (by decide)
    intro _
    rw [tvIs_f]
    go_simp
    apply wpMany_cons (t := tyCall r w19 (Bk) σ18 s) (tyCall_good HRW.out (fun b e => by have := HO.out b e; omega))
    case h1 =>
     intro W hI hl
     have hr : RrAt r σ18 s W := hl.1.1 rfl
     unfold oneAt
     go_simp
     exact sx_call hI (HBK.out _ W HOK.out hr)
    rintro ⟨q5, t5⟩
    rw [tyCall_f]
    unfold ndC
    go_simp
    apply wpMany_cons (t := tyRowA (fun b => N0 ≤ b) 2 (fun l => ∃ e, l = [t1, e] ∧ Got (Bk) σ18 e)) (tyRowA_good (fun b hb => ⟨by have := HB.out.box.new; have := HB.out.box.old; have := HGN.out; omega, fun e => by have := (HOW.out b e).1; omega⟩))
    case h1 =>
     intro W hI hl
     have h5 : IsT (fun b => w19.heap.size ≤ b) W q5 t5 ∧ RrAt r (after (Bk) σ18) s W ∧ Got (Bk) σ18 t5 := hl.2 ⟨7, .data⟩ (by simp) rfl
     have hvt := hI.tree HV.out.tree (fun b hb => ⟨by have := HB.out.box.new; have := HB.out.box.old; have := HGN.out; omega, fun e => by have := (HOW.out b e).1; omega⟩)
     unfold oneAt
     go_simp
     exact sx_rowA [q1, q5] [t1, t5] hI (fun b hb => by have := HN0.out; omega) (by decide) (by decide) rfl rfl rfl (by decide) (by decide) (fun i a b => match i, a, b with | 0, _, _ => hvt | 1, _, _ => h5.1.mono (fun b hb => by have := HN0.out; omega) | i + 2, c, _ => absurd c (by simp)) (⟨t5, rfl, h5.2.2⟩)
    rintro ⟨g6, l6⟩
    rw [tyRowA_f]
    go_simp
    apply wpMany_cons (t := tyNodeA (fun b => N0 ≤ b) (fun u => ∃ e, u = Tree.mk 34 ⟨#[]⟩ ax [t1, e] ∧ Got (Bk) σ18 e)) (tyNodeA_good (fun b hb => ⟨by have := HB.out.box.new; have := HB.out.box.old; have := HGN.out; omega, fun e => by have := (HOW.out b e).1; omega⟩))
    case h1 =>
     intro W hI hl
     have h6 : IsTs (fun b => N0 ≤ b) W (.slice (some ⟨g6, 0, none⟩) 2 2) l6 ∧ ∃ e, l6 = [t1, e] ∧ Got (Bk) σ18 e := hl.2 ⟨8, .data⟩ (by simp) rfl
     unfold oneAt
     go_simp
     exact sx_nodeA hI (by decide) (by decide) (h6.1) (by obtain ⟨e, he, hg⟩ := h6.2; exact ⟨e, by rw [he], hg⟩) (rLeaf_any (34) (⟨#[]⟩) (ax) (some ⟨g6, 0, none⟩) 2 2 W)
    rintro ⟨q7, t7⟩
    rw [tyNodeA_f]
    unfold ndC
    go_simp
    apply wpMany_cons (t := tyRowA (fun b => N0 ≤ b) 1 (fun l => ∃ e, l = [Tree.mk 34 ⟨#[]⟩ ax [t1, e]] ∧ Got (Bk) σ18 e)) (tyRowA_good (fun b hb => ⟨by have := HB.out.box.new; have := HB.out.box.old; have := HGN.out; omega, fun e => by have := (HOW.out b e).1; omega⟩))
    case h1 =>
     intro W hI hl
     have h7 : IsT (fun b => N0 ≤ b) W q7 t7 ∧ ∃ e, t7 = Tree.mk 34 ⟨#[]⟩ ax [t1, e] ∧ Got (Bk) σ18 e := hl.2 ⟨9, .data⟩ (by simp) rfl
     unfold oneAt
     go_simp
     exact sx_rowA [q7] [t7] hI (fun b hb => by have := HN0.out; omega) (by decide) (by decide) rfl rfl rfl (by decide) (by decide) (fun i a b => match i, a, b with | 0, _, _ => h7.1 | i + 1, c, _ => absurd c (by simp)) (by obtain ⟨e, he, hg⟩ := h7.2; exact ⟨e, by rw [he], hg⟩)
    rintro ⟨g8, l8⟩
    rw [tyRowA_f]
    go_simp
    apply wpMany_cons (t := tyList (g + 1) (Value.slice q.p q.n q.cap).ownBlock w19 (fun l => ∃ e, l = t.kids ++ [Tree.mk 34 ⟨#[]⟩ ax [t1, e]] ∧ Got (Bk) σ18 e)) (tyList_good (by have := HB.out.box.new; have := HB.out.box.old; omega))
    case h1 =>
     intro W hI hl
     have hN : Nodes (g + 1) W (.slice q.p q.n q.cap) t.kids := hl.1.2 rfl
     have h8 : IsTs (fun b => N0 ≤ b) W (.slice (some ⟨g8, 0, none⟩) 1 1) l8 ∧ ∃ e, l8 = [Tree.mk 34 ⟨#[]⟩ ax [t1, e]] ∧ Got (Bk) σ18 e := hl.2 ⟨10, .data⟩ (by simp) rfl
     exact sx_pushA rfl (.tmp 129) (.tmp 138) rfl rfl rfl hI (by decide) hN (by have := lt_heap HB.out.box.z; omega) (fun b e => (HO.out b e).2.1) (A := (fun b => N0 ≤ b)) (fun b hb => ⟨by have := HGN.out; omega, fun e => by have := (HOW.out b e).1; omega⟩) (h8.1) (by omega) (by obtain ⟨e, he, hg⟩ := h8.2; exact ⟨e, by rw [he], hg⟩)
    rintro ⟨v9, l9⟩
    rw [tyList_f]
    go_simp
    apply wpMany_cons (t := tvIs (.pointer (some ⟨g, 3, none⟩))) (tvIs_goodS _ _)
    case h1 =>
     intro W hI hl
     unfold oneAt
     go_simp
     exact sx_is (by decide) (by decide)
    intro _
    rw [tvIs_f]
    go_simp
    apply wpMany_nil (Ts := [])
    intro w40 hI hFa
    have h5 : IsT (fun b => w19.heap.size ≤ b) w40 q5 t5 ∧ RrAt r (after (Bk) σ18) s w40 ∧ Got (Bk) σ18 t5 := hFa 7
    have hrr := h5.2.1
    have h9 : Nodes (g + 1) w40 v9 l9 ∧ (∃ e, l9 = t.kids ++ [Tree.mk 34 ⟨#[]⟩ ax [t1, e]] ∧ Got (Bk) σ18 e) ∧ _ := hFa 11
    obtain ⟨h9, ⟨e6, rfl, hg6⟩, -⟩ := h9
    obtain ⟨p7, c7, rfl, -, -⟩ := h9.slice
    obtain ⟨n7, e7⟩ : ∃ n7, (t.kids ++ [Tree.mk 34 ⟨#[]⟩ ax [t1, e6]]).length = n7 := ⟨_, rfl⟩
    rw [e7] at h9 ⊢
    clear e7
    replace HD := Lib.hid (HD.out.step hg6)
    have HBX := Lib.hid (hI.box HB.out.box HOG.out)
    replace HB := Lib.hid (HB.out.store HBX.out h9)
    replace HT := Lib.hid ((hI.st HT.out hrr (fun b e => by have := (HO.out b e).2.2.1; have := HBX.out.new; omega)).poke g 3 (.slice p7 n7 c7) HBX.out.new)
    have HK7 : Hid (Tree.mk t.kind t.text t.at_ (t.kids ++ [Tree.mk 34 ⟨#[]⟩ ax [t1, e6]]) = .mk 30 ⟨#[]⟩ a (t.kids ++ [Tree.mk 34 ⟨#[]⟩ ax [t1, e6]])) := by show _ = _; rw [HKT.out]; rfl
    obtain ⟨b0, b1, b2, b3⟩ := HBX.out.cells
    have fz := HBX.out.warm'
    have hf8 : (t.kids ++ [Tree.mk 34 ⟨#[]⟩ ax [t1, e6]]).length + f' = r.L.length + 1 := by rw [List.length_append]; simp only [List.length_cons, List.length_nil]; omega
    clear hI hFa h5 h9 hrr HO HRW HOG HKT
    go_wp2_with fail
    clear b0 b1 b2 b3 fz HBX
    generalize w40.setCell ⟨g, 3, none⟩ (.slice p7 n7 c7) = w41 at *
    obtain ⟨q8, hq8⟩ : ∃ q8 : Raw, q8 = ⟨q.kind, q.text, q.at_, p7, n7, c7⟩ := ⟨_, rfl⟩
    obtain ⟨t8, ht8⟩ : ∃ t8, t8 = Tree.mk t.kind t.text t.at_ (t.kids ++ [Tree.mk 34 ⟨#[]⟩ ax [t1, e6]]) := ⟨_, rfl⟩
    have hk8 : t8.kids = t.kids ++ [Tree.mk 34 ⟨#[]⟩ ax [t1, e6]] := by rw [ht8]; rfl
    rw [← hq8, ← ht8] at HB
    rw [← ht8, ← hk8] at HK7
    rw [← hk8] at hf8
    clear hq8 ht8
    have HGE : Hid (Geq (i9 + 1) (after Bk σ18)) := HG0.out.after hupB
    generalize (after Bk σ18) = σ42 at HT HD HGE
    replace HD : Hid (Due P2 σ2 (stH r E Bk a f' t8.kids) σ42) := by rw [hk8]; exact HD
    have hrm := roomOf_eq HT.out.rr
    go_roundw
    case rel => exact ⟨f', q8, t8, σ42, HT.out, HB.out, HD.out, HK7.out, by first | exact hf8 | (rw [hk8]; exact hf8) | (rw [hk8]; simpa using hf8), fun i e => by have := HGE.out i e; omega⟩
    case measure =>
     rw [hrm, HRM.out]
     cases σ42 with
     | ok j => have := HGE.out j rfl; have := HT.out.rr.lt; simp only [room]; omega
     | error k => simp only [room]; omega
   rw [took_false HTK.out] at HT HD
   clear HTK hz
   go_wp2_with fail
   refine (take_r r _ s ⟨#[112, 114, 105, 110, 116]⟩ _ HT.out.rr HE.out HK.out (by decide) (known_of (by decide))).mono ?_
   rintro e w17 ⟨b, rfl, hr, hm, hg, hz⟩
   have HTK := Lib.hid hg
   replace HD := Lib.hid (HD.out.step hg)
   replace HN0 : Hid (N0 ≤ _) := Nat.le_trans HN0.out hm.size
   replace HT := Lib.hid (HT.out.on hr hm)
   replace HX := Lib.hid (HX.out.on hm)
   replace HB := Lib.hid (HB.out.on hm)
   clear hr hm hg
   cases b
   rotate_left
   ·obtain ⟨i0, hi0, ha0⟩ := took_true HTK.out hz
    cases hi0
    rw [ha0] at HT HD
    clear HTK hz ha0
    have HG0 : Hid (Geq (i9 + 1) (.ok (i9 + 1))) := Geq.here _
    have hw : IntKind.i64.wrap (lv + 1) = lv + 1 := IntWalk.i64_in _ (by omega)
    go_wp2_with fail
    have HOG : Hid ((Value.slice q.p q.n q.cap).ownBlock ≠ some g) := fun e => by have := (HB.out.own g e).2.2.1; omega
    have HO : Hid (∀ b, (Value.slice q.p q.n q.cap).ownBlock = some b → r.b < b ∧ b < w17.heap.size ∧ g < b ∧ w.heap.size ≤ b) := HB.out.own
    have HRW : Hid (r.b < w17.heap.size) := HT.out.rr.rb
    apply wp_region_many 12 (Sx r (Value.slice q.p q.n q.cap).ownBlock 6 10) (InvX r w (Value.slice q.p q.n q.cap).ownBlock w17) (F0x r (.ok (i9 + 1)) s (g + 1) (.slice q.p q.n q.cap) t.kids 6 10)
    case hIS => exact fun i x y hs hi => hi.step i hs (fun b e => (HO.out b e).2.2.2)
    case hk0 => exact F0x.keeps (by have := HB.out.box.new; have := HB.out.box.old; omega) (fun b e => by have := HO.out b e; omega)
    case hm => kernel_rfl
    case hB => kernel_rfl
    case h0 => exact InvX.start HT.out.mv
    case h1 => exact F0x.start HT.out.rr HB.out.nodes
    simp only [List.take_succ_cons, List.take_zero, List.drop_succ_cons, List.drop_zero]
    apply wpMany_cons (t := tvIs (.pointer (some ⟨g, 3, none⟩))) (tvIs_goodS _ _)
    case h1 =>
     intro W hI hl
     unfold oneAt
     go_simp
     exact sx_is (by decide) (by decide)
    intro _
    rw [tvIs_f]
    go_simp
    apply wpMany_cons (t := tvIs (.slice q.p q.n q.cap)) (tvIs_goodS _ _)
    case h1 =>
     intro W hI hl
     obtain ⟨b0, b1, b2, b3⟩ := (hI.box HB.out.box HOG.out).cells
     unfold oneAt
     go_simp
     exact sx_is (by decide) (by decide)
    intro _
    rw [tvIs_f]
    go_simp
    apply wpMany_cons (t := tvIs (.int .i64 ax)) (tvIs_goodS _ _)
    case h1 =>
     intro W hI hl
     unfold oneAt
     go_simp
     exact sx_is (by decide) (by decide)
    intro _
    rw [tvIs_f]
    go_simp
    apply wpMany_cons (t := tvIs (.pointer (some ⟨r.b, 0, none⟩))) (tvIs_goodS _ _)
    case h1 =>
     intro W hI hl
     unfold oneAt
     go_simp
     exact sx_is (by decide) (by decide)
    intro _
    rw [tvIs_f]
    go_simp
    apply wpMany_cons (t := tvIs (.int .i64 lv)) (tvIs_goodS _ _)
    case h1 =>
     intro W hI hl
     unfold oneAt
     go_simp
     exact sx_is (by decide) (by decide)
    intro _
    rw [tvIs_f]
    go_simp
    apply wpMany_cons (t := tvIs (.int .i64 (lv + 1))) (tvIs_goodS _ _)
    case h1 =>
     intro W hI hl
     have hw : IntKind.i64.wrap (lv + 1) = lv + 1 := IntWalk.i64_in _ (by omega)
     unfold oneAt
     go_simp
     try rw [hw]
     exact sx_is (by decide) (by decide)
    intro _
    rw [tvIs_f]
    go_simp
    apply wpMany_cons (t := tyCall r w17 (E) (.ok (i9 + 1)) s) (tyCall_good HRW.out (fun b e => by have := HO.out b e; omega))
    case h1 =>
     intro W hI hl
     have hr : RrAt r (.ok (i9 + 1)) s W := hl.1.1 rfl
     unfold oneAt
     go_simp
     exact sx_call hI (HEX.out _ W HOK.out hr)
    rintro ⟨q5, t5⟩
    rw [tyCall_f]
    unfold ndC
    go_simp
    apply wpMany_cons (t := tyRowA (fun b => N0 ≤ b) 1 (fun l => ∃ e, l = [e] ∧ Got (E) (.ok (i9 + 1)) e)) (tyRowA_good (fun b hb => ⟨by have := HB.out.box.new; have := HB.out.box.old; have := HGN.out; omega, fun e => by have := (HOW.out b e).1; omega⟩))
    case h1 =>
     intro W hI hl
     have h5 : IsT (fun b => w17.heap.size ≤ b) W q5 t5 ∧ RrAt r (after (E) (.ok (i9 + 1))) s W ∧ Got (E) (.ok (i9 + 1)) t5 := hl.2 ⟨6, .data⟩ (by simp) rfl
     unfold oneAt
     go_simp
     exact sx_rowA [q5] [t5] hI (fun b hb => by have := HN0.out; omega) (by decide) (by decide) rfl rfl rfl (by decide) (by decide) (fun i a b => match i, a, b with | 0, _, _ => h5.1.mono (fun b hb => by have := HN0.out; omega) | i + 1, c, _ => absurd c (by simp)) (⟨t5, rfl, h5.2.2⟩)
    rintro ⟨g6, l6⟩
    rw [tyRowA_f]
    go_simp
    apply wpMany_cons (t := tyNodeA (fun b => N0 ≤ b) (fun u => ∃ e, u = Tree.mk 35 ⟨#[]⟩ ax [e] ∧ Got (E) (.ok (i9 + 1)) e)) (tyNodeA_good (fun b hb => ⟨by have := HB.out.box.new; have := HB.out.box.old; have := HGN.out; omega, fun e => by have := (HOW.out b e).1; omega⟩))
    case h1 =>
     intro W hI hl
     have h6 : IsTs (fun b => N0 ≤ b) W (.slice (some ⟨g6, 0, none⟩) 1 1) l6 ∧ ∃ e, l6 = [e] ∧ Got (E) (.ok (i9 + 1)) e := hl.2 ⟨7, .data⟩ (by simp) rfl
     unfold oneAt
     go_simp
     exact sx_nodeA hI (by decide) (by decide) (h6.1) (by obtain ⟨e, he, hg⟩ := h6.2; exact ⟨e, by rw [he], hg⟩) (rLeaf_any (35) (⟨#[]⟩) (ax) (some ⟨g6, 0, none⟩) 1 1 W)
    rintro ⟨q7, t7⟩
    rw [tyNodeA_f]
    unfold ndC
    go_simp
    apply wpMany_cons (t := tyRowA (fun b => N0 ≤ b) 1 (fun l => ∃ e, l = [Tree.mk 35 ⟨#[]⟩ ax [e]] ∧ Got (E) (.ok (i9 + 1)) e)) (tyRowA_good (fun b hb => ⟨by have := HB.out.box.new; have := HB.out.box.old; have := HGN.out; omega, fun e => by have := (HOW.out b e).1; omega⟩))
    case h1 =>
     intro W hI hl
     have h7 : IsT (fun b => N0 ≤ b) W q7 t7 ∧ ∃ e, t7 = Tree.mk 35 ⟨#[]⟩ ax [e] ∧ Got (E) (.ok (i9 + 1)) e := hl.2 ⟨8, .data⟩ (by simp) rfl
     unfold oneAt
     go_simp
     exact sx_rowA [q7] [t7] hI (fun b hb => by have := HN0.out; omega) (by decide) (by decide) rfl rfl rfl (by decide) (by decide) (fun i a b => match i, a, b with | 0, _, _ => h7.1 | i + 1, c, _ => absurd c (by simp)) (by obtain ⟨e, he, hg⟩ := h7.2; exact ⟨e, by rw [he], hg⟩)
    rintro ⟨g8, l8⟩
    rw [tyRowA_f]
    go_simp
    apply wpMany_cons (t := tyList (g + 1) (Value.slice q.p q.n q.cap).ownBlock w17 (fun l => ∃ e, l = t.kids ++ [Tree.mk 35 ⟨#[]⟩ ax [e]] ∧ Got (E) (.ok (i9 + 1)) e)) (tyList_good (by have := HB.out.box.new; have := HB.out.box.old; omega))
    case h1 =>
     intro W hI hl
     have hN : Nodes (g + 1) W (.slice q.p q.n q.cap) t.kids := hl.1.2 rfl
     have h8 : IsTs (fun b => N0 ≤ b) W (.slice (some ⟨g8, 0, none⟩) 1 1) l8 ∧ ∃ e, l8 = [Tree.mk 35 ⟨#[]⟩ ax [e]] ∧ Got (E) (.ok (i9 + 1)) e := hl.2 ⟨9, .data⟩ (by simp) rfl
     exact sx_pushA rfl (.tmp 145) (.tmp 153) rfl rfl rfl hI (by decide) hN (by have := lt_heap HB.out.box.z; omega) (fun b e => (HO.out b e).2.1) (A := (fun b => N0 ≤ b)) (fun b hb => ⟨by have := HGN.out; omega, fun e => by have := (HOW.out b e).1; omega⟩) (h8.1) (by omega) (by obtain ⟨e, he, hg⟩ := h8.2; exact ⟨e, by rw [he], hg⟩)
    rintro ⟨v9, l9⟩
    rw [tyList_f]
    go_simp
    apply wpMany_cons (t := tvIs (.pointer (some ⟨g, 3, none⟩))) (tvIs_goodS _ _)
    case h1 =>
     intro W hI hl
     unfold oneAt
     go_simp
     exact sx_is (by decide) (by decide)
    intro _
    rw [tvIs_f]
    go_simp
    apply wpMany_nil (Ts := [])
    intro w40 hI hFa
    have h5 : IsT (fun b => w17.heap.size ≤ b) w40 q5 t5 ∧ RrAt r (after (E) (.ok (i9 + 1))) s w40 ∧ Got (E) (.ok (i9 + 1)) t5 := hFa 6
    have hrr := h5.2.1
    have h9 : Nodes (g + 1) w40 v9 l9 ∧ (∃ e, l9 = t.kids ++ [Tree.mk 35 ⟨#[]⟩ ax [e]] ∧ Got (E) (.ok (i9 + 1)) e) ∧ _ := hFa 10
    obtain ⟨h9, ⟨e6, rfl, hg6⟩, -⟩ := h9
    obtain ⟨p7, c7, rfl, -, -⟩ := h9.slice
    obtain ⟨n7, e7⟩ : ∃ n7, (t.kids ++ [Tree.mk 35 ⟨#[]⟩ ax [e6]]).length = n7 := ⟨_, rfl⟩
    rw [e7] at h9 ⊢
    clear e7
    replace HD := Lib.hid (HD.out.step hg6)
    have HBX := Lib.hid (hI.box HB.out.box HOG.out)
    replace HB := Lib.hid (HB.out.store HBX.out h9)
    replace HT := Lib.hid ((hI.st HT.out hrr (fun b e => by have := (HO.out b e).2.2.1; have := HBX.out.new; omega)).poke g 3 (.slice p7 n7 c7) HBX.out.new)
    have HK7 : Hid (Tree.mk t.kind t.text t.at_ (t.kids ++ [Tree.mk 35 ⟨#[]⟩ ax [e6]]) = .mk 30 ⟨#[]⟩ a (t.kids ++ [Tree.mk 35 ⟨#[]⟩ ax [e6]])) := by show _ = _; rw [HKT.out]; rfl
    obtain ⟨b0, b1, b2, b3⟩ := HBX.out.cells
    have fz := HBX.out.warm'
    have hf8 : (t.kids ++ [Tree.mk 35 ⟨#[]⟩ ax [e6]]).length + f' = r.L.length + 1 := by rw [List.length_append]; simp only [List.length_cons, List.length_nil]; omega
    clear hI hFa h5 h9 hrr HO HRW HOG HKT
    go_wp2_with fail
    clear b0 b1 b2 b3 fz HBX
    generalize w40.setCell ⟨g, 3, none⟩ (.slice p7 n7 c7) = w41 at *
    obtain ⟨q8, hq8⟩ : ∃ q8 : Raw, q8 = ⟨q.kind, q.text, q.at_, p7, n7, c7⟩ := ⟨_, rfl⟩
    obtain ⟨t8, ht8⟩ : ∃ t8, t8 = Tree.mk t.kind t.text t.at_ (t.kids ++ [Tree.mk 35 ⟨#[]⟩ ax [e6]]) := ⟨_, rfl⟩
    have hk8 : t8.kids = t.kids ++ [Tree.mk 35 ⟨#[]⟩ ax [e6]] := by rw [ht8]; rfl
    rw [← hq8, ← ht8] at HB
    rw [← ht8, ← hk8] at HK7
    rw [← hk8] at hf8
    clear hq8 ht8
    refine (need_r r _ s ⟨#[59]⟩ _ HT.out.rr HE.out HK.out (by decide) (known_of (by decide))).mono ?_
    rintro e w42 ⟨rfl, hr, hm⟩
    replace HD := Lib.hid (HD.out.step (Got.unit _ _))
    replace HT := Lib.hid (HT.out.on hr hm)
    replace HB := Lib.hid (HB.out.on hm)
    clear hr hm
    have HGE : Hid (Geq (i9 + 1) (after (needM r ⟨#[59]⟩) (after E (.ok (i9 + 1))))) := (HG0.out.after hupE.up).after (ups_need r _).up
    generalize after (needM r ⟨#[59]⟩) (after E (.ok (i9 + 1))) = σ42 at HT HD HGE
    replace HD : Hid (Due P2 σ2 (stH r E Bk a f' t8.kids) σ42) := by rw [hk8]; exact HD
    have hrm := roomOf_eq HT.out.rr
    go_wp2_with fail
    go_roundw
    case rel => exact ⟨f', q8, t8, σ42, HT.out, HB.out, HD.out, HK7.out, by first | exact hf8 | (rw [hk8]; exact hf8) | (rw [hk8]; simpa using hf8), fun i e => by have := HGE.out i e; omega⟩
    case measure =>
     rw [hrm, HRM.out]
     cases σ42 with
     | ok j => have := HGE.out j rfl; have := HT.out.rr.lt; simp only [room]; omega
     | error k => simp only [room]; omega
   rw [took_false HTK.out] at HT HD
   clear HTK hz
   have hw : IntKind.i64.wrap (lv + 1) = lv + 1 := IntWalk.i64_in _ (by omega)
   go_wp2_with fail
   refine (HEX.out _ _ HOK.out HT.out.rr).mono ?_
   rintro e w18 ⟨q1, t1, rfl, ht, hr, hm, hg⟩
   have HI := Lib.hid (ht.mono (A' := fun b => N0 ≤ b) (fun b hb => Nat.le_trans HN0.out hb))
   replace HD := Lib.hid (HD.out.step hg)
   replace HN0 : Hid (N0 ≤ _) := Nat.le_trans HN0.out hm.size
   replace HT := Lib.hid (HT.out.on hr hm)
   replace HX := Lib.hid (HX.out.on hm)
   replace HB := Lib.hid (HB.out.on hm)
   clear hr hm hg ht
   have HG0 : Hid (Geq (i9 + 1) (after E (.ok i9))) := fun j e => hupE.after e
   generalize after E (.ok i9) = σ18 at HT HD HG0
   unfold ndC
   go_wp2_with fail
   have HV := Lib.hid (VarA.first HT.out HI.out)
   have hbx := boxB w18 (.cells (ndC q1) 40)
   have HG3 := HN0
   replace HN0 : Hid (N0 ≤ _) := Nat.le_trans HN0.out hbx.size
   replace HT := Lib.hid (HT.out.on (HT.out.rr.below hbx) (Mv.of_below hbx))
   replace HX := Lib.hid (HX.out.on (Mv.of_below hbx))
   replace HB := Lib.hid (HB.out.on (Mv.of_below hbx))
   clear hbx HI
   unfold ndC at HV HT HX HB HN0
   obtain ⟨g3, hg⟩ : ∃ g, w18.heap.size = g := ⟨_, rfl⟩
   rw [hg] at HV HG3 ⊢
   generalize w18.alloc (.cells #[.int .i64 q1.kind, .string q1.text, .int .i64 q1.at_, .slice q1.p q1.n q1.cap] 40) = w19 at *
   clear hg
   have HOG3 : Hid ((Value.slice q.p q.n q.cap).ownBlock ≠ some g3) := fun e => by have := (HOW.out g3 e).1; have := HG3.out; omega
   refine (take_r r _ s ⟨#[125]⟩ _ HT.out.rr HE.out HK.out (by decide) (known_of (by decide))).mono ?_
   rintro e w20 ⟨b, rfl, hr, hm, hg, hz⟩
   replace HD := Lib.hid (HD.out.step hg)
   replace HN0 : Hid (N0 ≤ _) := Nat.le_trans HN0.out hm.size
   replace HT := Lib.hid (HT.out.on hr hm)
   replace HX := Lib.hid (HX.out.on hm)
   replace HB := Lib.hid (HB.out.on hm)
   replace HV := Lib.hid (HV.out.on (fun b hb => by have := HGN.out; have := HB.out.box.new; have := HB.out.box.old; have hb2 : N0 ≤ b := hb; omega) hm)
   clear hr hm hg
   cases b
   rotate_left
   ·replace HD := Lib.hid (HD.out.to (Q' := ndM 30 ⟨#[]⟩ a (t.kids ++ [t1])) rfl)
    clear hz
    have hbx := boxB w20 (.cells #[.int .i64 q1.kind, .string q1.text, .int .i64 q1.at_, .slice q1.p q1.n q1.cap] 40)
    have hrow : IsTs (fun b => N0 ≤ b) (w20.alloc (.cells #[.int .i64 q1.kind, .string q1.text, .int .i64 q1.at_, .slice q1.p q1.n q1.cap] 40)) (.slice (some ⟨w20.heap.size, 0, none⟩) 1 1) [t1] := IsTs.rowAt _ [q1] [t1] (heap_alloc_new w20 _) rfl rfl rfl (by decide) (by decide) HN0.out (fun i a b => match i, a, b with | 0, _, _ => HV.out.tree.later hbx | i + 1, c, _ => absurd c (by simp))
    have hnn := HB.out.nodes.but0 (But.of_below hbx)
    have HT2 := Lib.hid (HT.out.on (HT.out.rr.below hbx) (Mv.of_below hbx))
    have HB2 := Lib.hid (HB.out.on (Mv.of_below hbx))
    obtain ⟨b0, b1, b2, b3⟩ := HB.out.box.cells
    obtain ⟨v0, v1, v2, v3⟩ := HV.out.box.cells
    go_wp2_with (at_builtin; go_must (refine wpList_pushRr (A := fun b => N0 ≤ b) (B := g + 1) (o := ⟨some 35, _, _, _, _, _⟩) rfl (.tmp 32) (.tmp 34) rfl rfl rfl hnn (by have := lt_heap HB2.out.box.z; omega) (by omega) hrow (fun b hb => ⟨by have := HGN.out; have hb2 : N0 ≤ b := hb; omega, fun e => by have := (HOW.out b e).1; have hb2 : N0 ≤ b := hb; omega⟩) ?_; intro v9 w21 hn2 hg2; have hpu := HB2.out.push HT2.out hn2 hg2; obtain ⟨p7, c7, rfl, -, -⟩ := hn2.slice; obtain ⟨n7, e7⟩ : ∃ n7, (t.kids ++ [t1]).length = n7 := ⟨_, rfl⟩; rw [e7] at hn2 ⊢; clear e7; obtain ⟨bb0, bb1, bb2, bb3⟩ := hpu.1.cells; have ff := hpu.1.warm'; rename_i KK hKK; have HKK := Lib.hid hKK; clear hKK))
    refine HKK.out _ _ ?_
    clear HKK bb0 bb1 bb2 bb3 ff b0 b1 b2 b3 v0 v1 v2 v3 hnn hrow hbx
    have HK7 : Hid (Tree.mk t.kind t.text t.at_ (t.kids ++ [t1]) = .mk 30 ⟨#[]⟩ a (t.kids ++ [t1])) := by show _ = _; rw [HKT.out]; rfl
    replace HD := Lib.hid (HD.out.to (Q' := pureM (Tree.mk t.kind t.text t.at_ (t.kids ++ [t1]))) (congrArg pureM HK7.out.symm))
    have HB3 := Lib.hid (HB2.out.store hpu.1 hn2)
    have HT3 := Lib.hid (hpu.2.poke g 3 (.slice p7 n7 c7) hpu.1.new)
    clear HT HB HT2 HB2 HV HX hpu hn2 hg2
    have HT := HT3
    have HB := HB3
    clear HT3 HB3
    generalize w21.setCell ⟨g, 3, none⟩ (.slice p7 n7 c7) = w41 at *
    obtain ⟨b0, b1, b2, b3⟩ := HB.out.box.cells
    have HW := Lib.hid (HT.out.ret (q := ⟨q.kind, q.text, q.at_, p7, n7, c7⟩) (HB.out.tree))
    obtain ⟨d0, d1, d2, d3, f0⟩ := HT.out.res.cells
    try unfold ndC
    go_wp2_with fail
    obtain ⟨hcell, hist, hrr, hmv⟩ := HW.out
    exact bodyPost_ret (results_cellT rfl _ _ _ ⟨w.heap.size, 0, none⟩ _ rfl (load_node _ _ ⟨q.kind, q.text, q.at_, p7, n7, c7⟩ hcell)) rfl (HD0.out.lift (HD.out.postP hist hrr hmv))
   clear hz
   go_wp2_with fail
   replace HG0 : Hid (Geq (i9 + 1) (after (tookM r ⟨#[125]⟩) σ18)) := HG0.out.after (up_took r _)
   generalize after (tookM r ⟨#[125]⟩) σ18 = σ20 at HT HD HG0
   have HPL := Lib.hid HV.out.tree.parts.2.2.1
   have HOG : Hid ((Value.slice q.p q.n q.cap).ownBlock ≠ some g) := fun e => by have := (HB.out.own g e).2.2.1; omega
   have HO : Hid (∀ b, (Value.slice q.p q.n q.cap).ownBlock = some b → r.b < b ∧ b < w20.heap.size ∧ g < b ∧ w.heap.size ≤ b) := HB.out.own
   have HRW : Hid (r.b < w20.heap.size) := HT.out.rr.rb
   apply wp_region_many 10 (Sx r (Value.slice q.p q.n q.cap).ownBlock 999 8) (InvX r w (Value.slice q.p q.n q.cap).ownBlock w20) (F0x r σ20 s (g + 1) (.slice q.p q.n q.cap) t.kids 999 8)
   case hIS => exact fun i x y hs hi => hi.step i hs (fun b e => (HO.out b e).2.2.2)
   case hk0 => exact F0x.keeps (by have := HB.out.box.new; have := HB.out.box.old; omega) (fun b e => by have := HO.out b e; omega)
   case hm => kernel_rfl
   case hB => kernel_rfl
   case h0 => exact InvX.start HT.out.mv
   case h1 => exact F0x.start HT.out.rr HB.out.nodes
   simp only [List.take_succ_cons, List.take_zero, List.drop_succ_cons, List.drop_zero]
   apply wpMany_cons (t := tvIs (.pointer (some ⟨g, 3, none⟩))) (tvIs_goodS _ _)
   case h1 =>
    intro W hI hl
    unfold oneAt
    go_simp
    exact sx_is (by decide) (by decide)
   intro _
   rw [tvIs_f]
   go_simp
   apply wpMany_cons (t := tvIs (.slice q.p q.n q.cap)) (tvIs_goodS _ _)
   case h1 =>
    intro W hI hl
    obtain ⟨b0, b1, b2, b3⟩ := (hI.box HB.out.box HOG.out).cells
    unfold oneAt
    go_simp
    exact sx_is (by decide) (by decide)
   intro _
   rw [tvIs_f]
   go_simp
   apply wpMany_cons (t := tvIs (.pointer (some ⟨g3, 2, none⟩))) (tvIs_goodS _ _)
   case h1 =>
    intro W hI hl
    unfold oneAt
    go_simp
    exact sx_is (by decide) (by decide)
   intro _
   rw [tvIs_f]
   go_simp
   apply wpMany_cons (t := tvIs (.int .i64 q1.at_)) (tvIs_goodS _ _)
   case h1 =>
    intro W hI hl
    obtain ⟨b0, b1, b2, b3⟩ := (hI.box HV.out.box HOG3.out).cells
    unfold oneAt
    go_simp
    exact sx_is (by decide) (by decide)
   intro _
   rw [tvIs_f]
   go_simp
   apply wpMany_cons (t := tvIs (.agg #[.int .i64 q1.kind, .string q1.text, .int .i64 q1.at_, .slice q1.p q1.n q1.cap])) (tvIs_goodS _ _)
   case h1 =>
    intro W hI hl
    obtain ⟨b0, b1, b2, b3⟩ := (hI.box HV.out.box HOG3.out).cells
    unfold oneAt
    go_simp
    exact sx_is (by decide) (by decide)
   intro _
   rw [tvIs_f]
   go_simp
   apply wpMany_cons (t := tyRowA (fun b => N0 ≤ b) 1 (fun l => l = [t1])) (tyRowA_good (fun b hb => ⟨by have := HB.out.box.new; have := HB.out.box.old; have := HGN.out; omega, fun e => by have := (HOW.out b e).1; omega⟩))
   case h1 =>
    intro W hI hl
    have hvt := hI.tree HV.out.tree (fun b hb => ⟨by have := HB.out.box.new; have := HB.out.box.old; have := HGN.out; omega, fun e => by have := (HOW.out b e).1; omega⟩)
    unfold oneAt
    go_simp
    exact sx_rowA [q1] [t1] hI (fun b hb => by have := HN0.out; omega) (by decide) (by decide) rfl rfl rfl (by decide) (by decide) (fun i a b => match i, a, b with | 0, _, _ => hvt | i + 1, c, _ => absurd c (by simp)) (rfl)
   rintro ⟨g6, l6⟩
   rw [tyRowA_f]
   go_simp
   apply wpMany_cons (t := tyNodeA (fun b => N0 ≤ b) (fun u => u = Tree.mk 36 ⟨#[]⟩ q1.at_ [t1])) (tyNodeA_good (fun b hb => ⟨by have := HB.out.box.new; have := HB.out.box.old; have := HGN.out; omega, fun e => by have := (HOW.out b e).1; omega⟩))
   case h1 =>
    intro W hI hl
    have h6 : IsTs (fun b => N0 ≤ b) W (.slice (some ⟨g6, 0, none⟩) 1 1) l6 ∧ l6 = [t1] := hl.2 ⟨5, .data⟩ (by simp) rfl
    unfold oneAt
    go_simp
    exact sx_nodeA hI (by decide) (by decide) (h6.1) (by rw [h6.2]) (rLeaf_any (36) (⟨#[]⟩) (q1.at_) (some ⟨g6, 0, none⟩) 1 1 W)
   rintro ⟨q7, t7⟩
   rw [tyNodeA_f]
   unfold ndC
   go_simp
   apply wpMany_cons (t := tyRowA (fun b => N0 ≤ b) 1 (fun l => l = [Tree.mk 36 ⟨#[]⟩ q1.at_ [t1]])) (tyRowA_good (fun b hb => ⟨by have := HB.out.box.new; have := HB.out.box.old; have := HGN.out; omega, fun e => by have := (HOW.out b e).1; omega⟩))
   case h1 =>
    intro W hI hl
    have h7 : IsT (fun b => N0 ≤ b) W q7 t7 ∧ t7 = Tree.mk 36 ⟨#[]⟩ q1.at_ [t1] := hl.2 ⟨6, .data⟩ (by simp) rfl
    unfold oneAt
    go_simp
    exact sx_rowA [q7] [t7] hI (fun b hb => by have := HN0.out; omega) (by decide) (by decide) rfl rfl rfl (by decide) (by decide) (fun i a b => match i, a, b with | 0, _, _ => h7.1 | i + 1, c, _ => absurd c (by simp)) (by rw [h7.2])
   rintro ⟨g8, l8⟩
   rw [tyRowA_f]
   go_simp
   apply wpMany_cons (t := tyList (g + 1) (Value.slice q.p q.n q.cap).ownBlock w20 (fun l => l = t.kids ++ [Tree.mk 36 ⟨#[]⟩ q1.at_ [t1]])) (tyList_good (by have := HB.out.box.new; have := HB.out.box.old; omega))
   case h1 =>
    intro W hI hl
    have hN : Nodes (g + 1) W (.slice q.p q.n q.cap) t.kids := hl.1.2 rfl
    have h8 : IsTs (fun b => N0 ≤ b) W (.slice (some ⟨g8, 0, none⟩) 1 1) l8 ∧ l8 = [Tree.mk 36 ⟨#[]⟩ q1.at_ [t1]] := hl.2 ⟨7, .data⟩ (by simp) rfl
    exact sx_pushA rfl (.tmp 39) (.tmp 45) rfl rfl rfl hI (by decide) hN (by have := lt_heap HB.out.box.z; omega) (fun b e => (HO.out b e).2.1) (A := (fun b => N0 ≤ b)) (fun b hb => ⟨by have := HGN.out; omega, fun e => by have := (HOW.out b e).1; omega⟩) (h8.1) (by omega) (by rw [h8.2])
   rintro ⟨v9, l9⟩
   rw [tyList_f]
   go_simp
   apply wpMany_cons (t := tvIs (.pointer (some ⟨g, 3, none⟩))) (tvIs_goodS _ _)
   case h1 =>
    intro W hI hl
    unfold oneAt
    go_simp
    exact sx_is (by decide) (by decide)
   intro _
   rw [tvIs_f]
   go_simp
   apply wpMany_nil (Ts := [])
   intro w40 hI hFa
   have h5 : (999 = 999 → RrAt r σ20 s w40) ∧ _ := hFa 999
   have hrr := h5.1 rfl
   have h9 : Nodes (g + 1) w40 v9 l9 ∧ (l9 = t.kids ++ [Tree.mk 36 ⟨#[]⟩ q1.at_ [t1]]) ∧ _ := hFa 8
   obtain ⟨h9, rfl, -⟩ := h9
   obtain ⟨p7, c7, rfl, -, -⟩ := h9.slice
   obtain ⟨n7, e7⟩ : ∃ n7, (t.kids ++ [Tree.mk 36 ⟨#[]⟩ q1.at_ [t1]]).length = n7 := ⟨_, rfl⟩
   rw [e7] at h9 ⊢
   clear e7
   have HBX := Lib.hid (hI.box HB.out.box HOG.out)
   replace HB := Lib.hid (HB.out.store HBX.out h9)
   replace HT := Lib.hid ((hI.st HT.out hrr (fun b e => by have := (HO.out b e).2.2.1; have := HBX.out.new; omega)).poke g 3 (.slice p7 n7 c7) HBX.out.new)
   have HK7 : Hid (Tree.mk t.kind t.text t.at_ (t.kids ++ [Tree.mk 36 ⟨#[]⟩ q1.at_ [t1]]) = .mk 30 ⟨#[]⟩ a (t.kids ++ [Tree.mk 36 ⟨#[]⟩ q1.at_ [t1]])) := by show _ = _; rw [HKT.out]; rfl
   obtain ⟨b0, b1, b2, b3⟩ := HBX.out.cells
   have fz := HBX.out.warm'
   have hf8 : (t.kids ++ [Tree.mk 36 ⟨#[]⟩ q1.at_ [t1]]).length + f' = r.L.length + 1 := by rw [List.length_append]; simp only [List.length_cons, List.length_nil]; omega
   clear hI hFa h5 h9 hrr HO HRW HOG HKT
   go_wp2_with fail
   clear b0 b1 b2 b3 fz HBX
   generalize w40.setCell ⟨g, 3, none⟩ (.slice p7 n7 c7) = w41 at *
   obtain ⟨q8, hq8⟩ : ∃ q8 : Raw, q8 = ⟨q.kind, q.text, q.at_, p7, n7, c7⟩ := ⟨_, rfl⟩
   obtain ⟨t8, ht8⟩ : ∃ t8, t8 = Tree.mk t.kind t.text t.at_ (t.kids ++ [Tree.mk 36 ⟨#[]⟩ q1.at_ [t1]]) := ⟨_, rfl⟩
   have hk8 : t8.kids = t.kids ++ [Tree.mk 36 ⟨#[]⟩ q1.at_ [t1]] := by rw [ht8]; rfl
   rw [← hq8, ← ht8] at HB
   rw [← ht8, ← hk8] at HK7
   rw [← hk8] at hf8
   clear hq8 ht8
   rw [show Tree.mk 36 ⟨#[]⟩ q1.at_ [t1] = .mk 36 ⟨#[]⟩ t1.at_ [t1] from by rw [HPL.out]] at hk8
   refine (need_r r _ s ⟨#[59]⟩ _ HT.out.rr HE.out HK.out (by decide) (known_of (by decide))).mono ?_
   rintro e w42 ⟨rfl, hr, hm⟩
   replace HD := Lib.hid (HD.out.step (Got.unit _ _))
   replace HT := Lib.hid (HT.out.on hr hm)
   replace HB := Lib.hid (HB.out.on hm)
   clear hr hm
   have HGE : Hid (Geq (i9 + 1) (after (needM r ⟨#[59]⟩) σ20)) := (HG0.out).after (ups_need r _).up
   generalize after (needM r ⟨#[59]⟩) σ20 = σ42 at HT HD HGE
   replace HD : Hid (Due P2 σ2 (stH r E Bk a f' t8.kids) σ42) := by rw [hk8]; exact HD
   have hrm := roomOf_eq HT.out.rr
   go_wp2_with fail
   go_roundw
   case rel => exact ⟨f', q8, t8, σ42, HT.out, HB.out, HD.out, HK7.out, by first | exact hf8 | (rw [hk8] at hf8 ⊢; exact hf8) | (rw [hk8] at hf8 ⊢; simpa using hf8), fun i e => by have := HGE.out i e; omega⟩
   case measure =>
    rw [hrm, HRM.out]
    cases σ42 with
    | ok j => have := HGE.out j rfl; have := HT.out.rr.lt; simp only [room]; omega
    | error k => simp only [room]; omega
  have hkb1 : (kd == 1) = false := beq_eq_false_iff_ne.2 hk1
  replace HD := Lib.hid (HD.out.to (show stA r E Bk a t.kids (stH r E Bk a f') ⟨kd, tx, ax⟩ = _ from if_neg hk1))
  go_wp2_with fail
  clear x0 x1 x2
  refine (take_r r _ s ⟨#[119, 104, 105, 108, 101]⟩ _ HT.out.rr HE.out HK.out (by decide) (known_of (by decide))).mono ?_
  rintro e w17 ⟨b, rfl, hr, hm, hg, hz⟩
  have HTK := Lib.hid hg
  replace HD := Lib.hid (HD.out.step hg)
  replace HN0 : Hid (N0 ≤ _) := Nat.le_trans HN0.out hm.size
  replace HT := Lib.hid (HT.out.on hr hm)
  replace HX := Lib.hid (HX.out.on hm)
  replace HB := Lib.hid (HB.out.on hm)
  clear hr hm hg
  cases b
  rotate_left
  ·obtain ⟨i0, hi0, ha0⟩ := took_true HTK.out hz
   cases hi0
   rw [ha0] at HT HD
   clear HTK hz ha0
   have HG0 : Hid (Geq (i9 + 1) (.ok (i9 + 1))) := Geq.here _
   have hw : IntKind.i64.wrap (lv + 1) = lv + 1 := IntWalk.i64_in _ (by omega)
   go_wp2_with fail
   refine (HEX.out _ _ HOK.out HT.out.rr).mono ?_
   rintro e w18 ⟨q1, t1, rfl, ht, hr, hm, hg⟩
   have HI := Lib.hid (ht.mono (A' := fun b => N0 ≤ b) (fun b hb => Nat.le_trans HN0.out hb))
   replace HD := Lib.hid (HD.out.step hg)
   replace HN0 : Hid (N0 ≤ _) := Nat.le_trans HN0.out hm.size
   replace HT := Lib.hid (HT.out.on hr hm)
   replace HX := Lib.hid (HX.out.on hm)
   replace HB := Lib.hid (HB.out.on hm)
   clear hr hm hg ht
   replace HG0 : Hid (Geq (i9 + 1) (after E (.ok (i9 + 1)))) := HG0.out.after hupE.up
   generalize after E (.ok (i9 + 1)) = σ18 at HT HD HG0
   unfold ndC
   go_wp2_with fail
   have HV := Lib.hid (VarA.first HT.out HI.out)
   have hbx := boxB w18 (.cells (ndC q1) 40)
   have HG3 := HN0
   replace HN0 : Hid (N0 ≤ _) := Nat.le_trans HN0.out hbx.size
   replace HT := Lib.hid (HT.out.on (HT.out.rr.below hbx) (Mv.of_below hbx))
   replace HX := Lib.hid (HX.out.on (Mv.of_below hbx))
   replace HB := Lib.hid (HB.out.on (Mv.of_below hbx))
   clear hbx HI
   unfold ndC at HV HT HX HB HN0
   obtain ⟨g3, hg⟩ : ∃ g, w18.heap.size = g := ⟨_, rfl⟩
   rw [hg] at HV HG3 ⊢
   generalize w18.alloc (.cells #[.int .i64 q1.kind, .string q1.text, .int .i64 q1.at_, .slice q1.p q1.n q1.cap] 40) = w19 at *
   clear hg
   have HOG3 : Hid ((Value.slice q.p q.n q.cap).ownBlock ≠ some g3) := fun e => by have := (HOW.out g3 e).1; have := HG3.out; omega
   have HOG : Hid ((Value.slice q.p q.n q.cap).ownBlock ≠ some g) := fun e => by have := (HB.out.own g e).2.2.1; omega
   have HO : Hid (∀ b, (Value.slice q.p q.n q.cap).ownBlock = some b → r.b < b ∧ b < w19.heap.size ∧ g < b ∧ w.heap.size ≤ b) := HB.out.own
   have HRW : Hid (r.b < w19.heap.size) := HT.out.rr.rb
   apply wp_region_many 13 (Sx r (Value.slice q.p q.n q.cap).ownBlock 7 11) (InvX r w (Value.slice q.p q.n q.cap).ownBlock w19) (F0x r σ18 s (g + 1) (.slice q.p q.n q.cap) t.kids 7 11)
   case hIS => exact fun i x y hs hi => hi.step i hs (fun b e => (HO.out b e).2.2.2)
   case hk0 => exact F0x.keeps (by have := HB.out.box.new; have := HB.out.box.old; omega) (fun b e => by have := HO.out b e; omega)
   case hm => kernel_rfl
   case hB => kernel_rfl
   case h0 => exact InvX.start HT.out.mv
   case h1 => exact F0x.start HT.out.rr HB.out.nodes
   simp only [List.take_succ_cons, List.take_zero, List.drop_succ_cons, List.drop_zero]
   apply wpMany_cons (t := tvIs (.pointer (some ⟨g, 3, none⟩))) (tvIs_goodS _ _)
   case h1 =>
    intro W hI hl
    unfold oneAt
    go_simp
    exact sx_is (by decide) (by decide)
   intro _
   rw [tvIs_f]
   go_simp
   apply wpMany_cons (t := tvIs (.slice q.p q.n q.cap)) (tvIs_goodS _ _)
   case h1 =>
    intro W hI hl
    obtain ⟨b0, b1, b2, b3⟩ := (hI.box HB.out.box HOG.out).cells
    unfold oneAt
    go_simp
    exact sx_is (by decide) (by decide)
   intro _
   rw [tvIs_f]
   go_simp
   apply wpMany_cons (t := tvIs (.int .i64 ax)) (tvIs_goodS _ _)
   case h1 =>
    intro W hI hl
    unfold oneAt
    go_simp
    exact sx_is (by decide) (by decide)
   intro _
   rw [tvIs_f]
   go_simp
   apply wpMany_cons (t := tvIs (.agg #[.int .i64 q1.kind, .string q1.text, .int .i64 q1.at_, .slice q1.p q1.n q1.cap])) (tvIs_goodS _ _)
   case h1 =>
    intro W hI hl
    obtain ⟨b0, b1, b2, b3⟩ := (hI.box HV.out.box HOG3.out).cells
    unfold oneAt
    go_simp
    exact sx_is (by decide) (by decide)
   intro _
   rw [tvIs_f]
   go_simp
   apply wpMany_cons (t := tvIs (.pointer (some ⟨r.b, 0, none⟩))) (tvIs_goodS _ _)
   case h1 =>
    intro W hI hl
    unfold oneAt
    go_simp
    exact sx_is (by decide) (by decide)
   intro _
   rw [tvIs_f]
   go_simp
   apply wpMany_cons (t := tvIs (.int .i64 lv)) (tvIs_goodS _ _)
   case h1 =>
    intro W hI hl
    unfold oneAt
    go_simp
    exact sx_is (by decide) (by decide)
   intro _
   rw [tvIs_f]
   go_simp
   apply wpMany_cons (t := tvIs (.int .i64 (lv + 1))) (tvIs_goodS _ _)
   case h1 =>
    intro W hI hl
    have hw : IntKind.i64.wrap (lv + 1) = lv + 1 := IntWalk.i64_in _ (by omega)
    unfold oneAt
    go_simp
    try rw [hw]
    exact sx_is (by decide) (by decide)
   intro _
   rw [tvIs_f]
   go_simp
   apply wpMany_cons (t := tyCall r w19 (Bk) σ18 s) (tyCall_good HRW.out (fun b e => by have := HO.out b e; omega))
   case h1 =>
    intro W hI hl
    have hr : RrAt r σ18 s W := hl.1.1 rfl
    unfold oneAt
    go_simp
    exact sx_call hI (HBK.out _ W HOK.out hr)
   rintro ⟨q5, t5⟩
   rw [tyCall_f]
   unfold ndC
   go_simp
   apply wpMany_cons (t := tyRowA (fun b => N0 ≤ b) 2 (fun l => ∃ e, l = [t1, e] ∧ Got (Bk) σ18 e)) (tyRowA_good (fun b hb => ⟨by have := HB.out.box.new; have := HB.out.box.old; have := HGN.out; omega, fun e => by have := (HOW.out b e).1; omega⟩))
   case h1 =>
    intro W hI hl
    have h5 : IsT (fun b => w19.heap.size ≤ b) W q5 t5 ∧ RrAt r (after (Bk) σ18) s W ∧ Got (Bk) σ18 t5 := hl.2 ⟨7, .data⟩ (by simp) rfl
    have hvt := hI.tree HV.out.tree (fun b hb => ⟨by have := HB.out.box.new; have := HB.out.box.old; have := HGN.out; omega, fun e => by have := (HOW.out b e).1; omega⟩)
    unfold oneAt
    go_simp
    exact sx_rowA [q1, q5] [t1, t5] hI (fun b hb => by have := HN0.out; omega) (by decide) (by decide) rfl rfl rfl (by decide) (by decide) (fun i a b => match i, a, b with | 0, _, _ => hvt | 1, _, _ => h5.1.mono (fun b hb => by have := HN0.out; omega) | i + 2, c, _ => absurd c (by simp)) (⟨t5, rfl, h5.2.2⟩)
   rintro ⟨g6, l6⟩
   rw [tyRowA_f]
   go_simp
   apply wpMany_cons (t := tyNodeA (fun b => N0 ≤ b) (fun u => ∃ e, u = Tree.mk 34 ⟨#[]⟩ ax [t1, e] ∧ Got (Bk) σ18 e)) (tyNodeA_good (fun b hb => ⟨by have := HB.out.box.new; have := HB.out.box.old; have := HGN.out; omega, fun e => by have := (HOW.out b e).1; omega⟩))
   case h1 =>
    intro W hI hl
    have h6 : IsTs (fun b => N0 ≤ b) W (.slice (some ⟨g6, 0, none⟩) 2 2) l6 ∧ ∃ e, l6 = [t1, e] ∧ Got (Bk) σ18 e := hl.2 ⟨8, .data⟩ (by simp) rfl
    unfold oneAt
    go_simp
    exact sx_nodeA hI (by decide) (by decide) (h6.1) (by obtain ⟨e, he, hg⟩ := h6.2; exact ⟨e, by rw [he], hg⟩) (rLeaf_any (34) (⟨#[]⟩) (ax) (some ⟨g6, 0, none⟩) 2 2 W)
   rintro ⟨q7, t7⟩
   rw [tyNodeA_f]
   unfold ndC
   go_simp
   apply wpMany_cons (t := tyRowA (fun b => N0 ≤ b) 1 (fun l => ∃ e, l = [Tree.mk 34 ⟨#[]⟩ ax [t1, e]] ∧ Got (Bk) σ18 e)) (tyRowA_good (fun b hb => ⟨by have := HB.out.box.new; have := HB.out.box.old; have := HGN.out; omega, fun e => by have := (HOW.out b e).1; omega⟩))
   case h1 =>
    intro W hI hl
    have h7 : IsT (fun b => N0 ≤ b) W q7 t7 ∧ ∃ e, t7 = Tree.mk 34 ⟨#[]⟩ ax [t1, e] ∧ Got (Bk) σ18 e := hl.2 ⟨9, .data⟩ (by simp) rfl
    unfold oneAt
    go_simp
    exact sx_rowA [q7] [t7] hI (fun b hb => by have := HN0.out; omega) (by decide) (by decide) rfl rfl rfl (by decide) (by decide) (fun i a b => match i, a, b with | 0, _, _ => h7.1 | i + 1, c, _ => absurd c (by simp)) (by obtain ⟨e, he, hg⟩ := h7.2; exact ⟨e, by rw [he], hg⟩)
   rintro ⟨g8, l8⟩
   rw [tyRowA_f]
   go_simp
   apply wpMany_cons (t := tyList (g + 1) (Value.slice q.p q.n q.cap).ownBlock w19 (fun l => ∃ e, l = t.kids ++ [Tree.mk 34 ⟨#[]⟩ ax [t1, e]] ∧ Got (Bk) σ18 e)) (tyList_good (by have := HB.out.box.new; have := HB.out.box.old; omega))
   case h1 =>
    intro W hI hl
    have hN : Nodes (g + 1) W (.slice q.p q.n q.cap) t.kids := hl.1.2 rfl
    have h8 : IsTs (fun b => N0 ≤ b) W (.slice (some ⟨g8, 0, none⟩) 1 1) l8 ∧ ∃ e, l8 = [Tree.mk 34 ⟨#[]⟩ ax [t1, e]] ∧ Got (Bk) σ18 e := hl.2 ⟨10, .data⟩ (by simp) rfl
    exact sx_pushA rfl (.tmp 129) (.tmp 138) rfl rfl rfl hI (by decide) hN (by have := lt_heap HB.out.box.z; omega) (fun b e => (HO.out b e).2.1) (A := (fun b => N0 ≤ b)) (fun b hb => ⟨by have := HGN.out; omega, fun e => by have := (HOW.out b e).1; omega⟩) (h8.1) (by omega) (by obtain ⟨e, he, hg⟩ := h8.2; exact ⟨e, by rw [he], hg⟩)
   rintro ⟨v9, l9⟩
   rw [tyList_f]
   go_simp
   apply wpMany_cons (t := tvIs (.pointer (some ⟨g, 3, none⟩))) (tvIs_goodS _ _)
   case h1 =>
    intro W hI hl
    unfold oneAt
    go_simp
    exact sx_is (by decide) (by decide)
   intro _
   rw [tvIs_f]
   go_simp
   apply wpMany_nil (Ts := [])
   intro w40 hI hFa
   have h5 : IsT (fun b => w19.heap.size ≤ b) w40 q5 t5 ∧ RrAt r (after (Bk) σ18) s w40 ∧ Got (Bk) σ18 t5 := hFa 7
   have hrr := h5.2.1
   have h9 : Nodes (g + 1) w40 v9 l9 ∧ (∃ e, l9 = t.kids ++ [Tree.mk 34 ⟨#[]⟩ ax [t1, e]] ∧ Got (Bk) σ18 e) ∧ _ := hFa 11
   obtain ⟨h9, ⟨e6, rfl, hg6⟩, -⟩ := h9
   obtain ⟨p7, c7, rfl, -, -⟩ := h9.slice
   obtain ⟨n7, e7⟩ : ∃ n7, (t.kids ++ [Tree.mk 34 ⟨#[]⟩ ax [t1, e6]]).length = n7 := ⟨_, rfl⟩
   rw [e7] at h9 ⊢
   clear e7
   replace HD := Lib.hid (HD.out.step hg6)
   have HBX := Lib.hid (hI.box HB.out.box HOG.out)
   replace HB := Lib.hid (HB.out.store HBX.out h9)
   replace HT := Lib.hid ((hI.st HT.out hrr (fun b e => by have := (HO.out b e).2.2.1; have := HBX.out.new; omega)).poke g 3 (.slice p7 n7 c7) HBX.out.new)
   have HK7 : Hid (Tree.mk t.kind t.text t.at_ (t.kids ++ [Tree.mk 34 ⟨#[]⟩ ax [t1, e6]]) = .mk 30 ⟨#[]⟩ a (t.kids ++ [Tree.mk 34 ⟨#[]⟩ ax [t1, e6]])) := by show _ = _; rw [HKT.out]; rfl
   obtain ⟨b0, b1, b2, b3⟩ := HBX.out.cells
   have fz := HBX.out.warm'
   have hf8 : (t.kids ++ [Tree.mk 34 ⟨#[]⟩ ax [t1, e6]]).length + f' = r.L.length + 1 := by rw [List.length_append]; simp only [List.length_cons, List.length_nil]; omega
   clear hI hFa h5 h9 hrr HO HRW HOG HKT
   go_wp2_with fail
   clear b0 b1 b2 b3 fz HBX
   generalize w40.setCell ⟨g, 3, none⟩ (.slice p7 n7 c7) = w41 at *
   obtain ⟨q8, hq8⟩ : ∃ q8 : Raw, q8 = ⟨q.kind, q.text, q.at_, p7, n7, c7⟩ := ⟨_, rfl⟩
   obtain ⟨t8, ht8⟩ : ∃ t8, t8 = Tree.mk t.kind t.text t.at_ (t.kids ++ [Tree.mk 34 ⟨#[]⟩ ax [t1, e6]]) := ⟨_, rfl⟩
   have hk8 : t8.kids = t.kids ++ [Tree.mk 34 ⟨#[]⟩ ax [t1, e6]] := by rw [ht8]; rfl
   rw [← hq8, ← ht8] at HB
   rw [← ht8, ← hk8] at HK7
   rw [← hk8] at hf8
   clear hq8 ht8
   have HGE : Hid (Geq (i9 + 1) (after Bk σ18)) := HG0.out.after hupB
   generalize (after Bk σ18) = σ42 at HT HD HGE
   replace HD : Hid (Due P2 σ2 (stH r E Bk a f' t8.kids) σ42) := by rw [hk8]; exact HD
   have hrm := roomOf_eq HT.out.rr
   go_roundw
   case rel => exact ⟨f', q8, t8, σ42, HT.out, HB.out, HD.out, HK7.out, by first | exact hf8 | (rw [hk8]; exact hf8) | (rw [hk8]; simpa using hf8), fun i e => by have := HGE.out i e; omega⟩
   case measure =>
    rw [hrm, HRM.out]
    cases σ42 with
    | ok j => have := HGE.out j rfl; have := HT.out.rr.lt; simp only [room]; omega
    | error k => simp only [room]; omega
  rw [took_false HTK.out] at HT HD
  clear HTK hz
  go_wp2_with fail
  refine (take_r r _ s ⟨#[112, 114, 105, 110, 116]⟩ _ HT.out.rr HE.out HK.out (by decide) (known_of (by decide))).mono ?_
  rintro e w17 ⟨b, rfl, hr, hm, hg, hz⟩
  have HTK := Lib.hid hg
  replace HD := Lib.hid (HD.out.step hg)
  replace HN0 : Hid (N0 ≤ _) := Nat.le_trans HN0.out hm.size
  replace HT := Lib.hid (HT.out.on hr hm)
  replace HX := Lib.hid (HX.out.on hm)
  replace HB := Lib.hid (HB.out.on hm)
  clear hr hm hg
  cases b
  rotate_left
  ·obtain ⟨i0, hi0, ha0⟩ := took_true HTK.out hz
   cases hi0
   rw [ha0] at HT HD
   clear HTK hz ha0
   have HG0 : Hid (Geq (i9 + 1) (.ok (i9 + 1))) := Geq.here _
   have hw : IntKind.i64.wrap (lv + 1) = lv + 1 := IntWalk.i64_in _ (by omega)
   go_wp2_with fail
   have HOG : Hid ((Value.slice q.p q.n q.cap).ownBlock ≠ some g) := fun e => by have := (HB.out.own g e).2.2.1; omega
   have HO : Hid (∀ b, (Value.slice q.p q.n q.cap).ownBlock = some b → r.b < b ∧ b < w17.heap.size ∧ g < b ∧ w.heap.size ≤ b) := HB.out.own
   have HRW : Hid (r.b < w17.heap.size) := HT.out.rr.rb
   apply wp_region_many 12 (Sx r (Value.slice q.p q.n q.cap).ownBlock 6 10) (InvX r w (Value.slice q.p q.n q.cap).ownBlock w17) (F0x r (.ok (i9 + 1)) s (g + 1) (.slice q.p q.n q.cap) t.kids 6 10)
   case hIS => exact fun i x y hs hi => hi.step i hs (fun b e => (HO.out b e).2.2.2)
   case hk0 => exact F0x.keeps (by have := HB.out.box.new; have := HB.out.box.old; omega) (fun b e => by have := HO.out b e; omega)
   case hm => kernel_rfl
   case hB => kernel_rfl
   case h0 => exact InvX.start HT.out.mv
   case h1 => exact F0x.start HT.out.rr HB.out.nodes
   simp only [List.take_succ_cons, List.take_zero, List.drop_succ_cons, List.drop_zero]
   apply wpMany_cons (t := tvIs (.pointer (some ⟨g, 3, none⟩))) (tvIs_goodS _ _)
   case h1 =>
    intro W hI hl
    unfold oneAt
    go_simp
    exact sx_is (by decide) (by decide)
   intro _
   rw [tvIs_f]
   go_simp
   apply wpMany_cons (t := tvIs (.slice q.p q.n q.cap)) (tvIs_goodS _ _)
   case h1 =>
    intro W hI hl
    obtain ⟨b0, b1, b2, b3⟩ := (hI.box HB.out.box HOG.out).cells
    unfold oneAt
    go_simp
    exact sx_is (by decide) (by decide)
   intro _
   rw [tvIs_f]
   go_simp
   apply wpMany_cons (t := tvIs (.int .i64 ax)) (tvIs_goodS _ _)
   case h1 =>
    intro W hI hl
    unfold oneAt
    go_simp
    exact sx_is (by decide) (by decide)
   intro _
   rw [tvIs_f]
   go_simp
   apply wpMany_cons (t := tvIs (.pointer (some ⟨r.b, 0, none⟩))) (tvIs_goodS _ _)
   case h1 =>
    intro W hI hl
    unfold oneAt
    go_simp
    exact sx_is (by decide) (by decide)
   intro _
   rw [tvIs_f]
   go_simp
   apply wpMany_cons (t := tvIs (.int .i64 lv)) (tvIs_goodS _ _)
   case h1 =>
    intro W hI hl
    unfold oneAt
    go_simp
    exact sx_is (by decide) (by decide)
   intro _
   rw [tvIs_f]
   go_simp
   apply wpMany_cons (t := tvIs (.int .i64 (lv + 1))) (tvIs_goodS _ _)
   case h1 =>
    intro W hI hl
    have hw : IntKind.i64.wrap (lv + 1) = lv + 1 := IntWalk.i64_in _ (by omega)
    unfold oneAt
    go_simp
    try rw [hw]
    exact sx_is (by decide) (by decide)
   intro _
   rw [tvIs_f]
   go_simp
   apply wpMany_cons (t := tyCall r w17 (E) (.ok (i9 + 1)) s) (tyCall_good HRW.out (fun b e => by have := HO.out b e; omega))
   case h1 =>
    intro W hI hl
    have hr : RrAt r (.ok (i9 + 1)) s W := hl.1.1 rfl
    unfold oneAt
    go_simp
    exact sx_call hI (HEX.out _ W HOK.out hr)
   rintro ⟨q5, t5⟩
   rw [tyCall_f]
   unfold ndC
   go_simp
   apply wpMany_cons (t := tyRowA (fun b => N0 ≤ b) 1 (fun l => ∃ e, l = [e] ∧ Got (E) (.ok (i9 + 1)) e)) (tyRowA_good (fun b hb => ⟨by have := HB.out.box.new; have := HB.out.box.old; have := HGN.out; omega, fun e => by have := (HOW.out b e).1; omega⟩))
   case h1 =>
    intro W hI hl
    have h5 : IsT (fun b => w17.heap.size ≤ b) W q5 t5 ∧ RrAt r (after (E) (.ok (i9 + 1))) s W ∧ Got (E) (.ok (i9 + 1)) t5 := hl.2 ⟨6, .data⟩ (by simp) rfl
    unfold oneAt
    go_simp
    exact sx_rowA [q5] [t5] hI (fun b hb => by have := HN0.out; omega) (by decide) (by decide) rfl rfl rfl (by decide) (by decide) (fun i a b => match i, a, b with | 0, _, _ => h5.1.mono (fun b hb => by have := HN0.out; omega) | i + 1, c, _ => absurd c (by simp)) (⟨t5, rfl, h5.2.2⟩)
   rintro ⟨g6, l6⟩
   rw [tyRowA_f]
   go_simp
   apply wpMany_cons (t := tyNodeA (fun b => N0 ≤ b) (fun u => ∃ e, u = Tree.mk 35 ⟨#[]⟩ ax [e] ∧ Got (E) (.ok (i9 + 1)) e)) (tyNodeA_good (fun b hb => ⟨by have := HB.out.box.new; have := HB.out.box.old; have := HGN.out; omega, fun e => by have := (HOW.out b e).1; omega⟩))
   case h1 =>
    intro W hI hl
    have h6 : IsTs (fun b => N0 ≤ b) W (.slice (some ⟨g6, 0, none⟩) 1 1) l6 ∧ ∃ e, l6 = [e] ∧ Got (E) (.ok (i9 + 1)) e := hl.2 ⟨7, .data⟩ (by simp) rfl
    unfold oneAt
    go_simp
    exact sx_nodeA hI (by decide) (by decide) (h6.1) (by obtain ⟨e, he, hg⟩ := h6.2; exact ⟨e, by rw [he], hg⟩) (rLeaf_any (35) (⟨#[]⟩) (ax) (some ⟨g6, 0, none⟩) 1 1 W)
   rintro ⟨q7, t7⟩
   rw [tyNodeA_f]
   unfold ndC
   go_simp
   apply wpMany_cons (t := tyRowA (fun b => N0 ≤ b) 1 (fun l => ∃ e, l = [Tree.mk 35 ⟨#[]⟩ ax [e]] ∧ Got (E) (.ok (i9 + 1)) e)) (tyRowA_good (fun b hb => ⟨by have := HB.out.box.new; have := HB.out.box.old; have := HGN.out; omega, fun e => by have := (HOW.out b e).1; omega⟩))
   case h1 =>
    intro W hI hl
    have h7 : IsT (fun b => N0 ≤ b) W q7 t7 ∧ ∃ e, t7 = Tree.mk 35 ⟨#[]⟩ ax [e] ∧ Got (E) (.ok (i9 + 1)) e := hl.2 ⟨8, .data⟩ (by simp) rfl
    unfold oneAt
    go_simp
    exact sx_rowA [q7] [t7] hI (fun b hb => by have := HN0.out; omega) (by decide) (by decide) rfl rfl rfl (by decide) (by decide) (fun i a b => match i, a, b with | 0, _, _ => h7.1 | i + 1, c, _ => absurd c (by simp)) (by obtain ⟨e, he, hg⟩ := h7.2; exact ⟨e, by rw [he], hg⟩)
   rintro ⟨g8, l8⟩
   rw [tyRowA_f]
   go_simp
   apply wpMany_cons (t := tyList (g + 1) (Value.slice q.p q.n q.cap).ownBlock w17 (fun l => ∃ e, l = t.kids ++ [Tree.mk 35 ⟨#[]⟩ ax [e]] ∧ Got (E) (.ok (i9 + 1)) e)) (tyList_good (by have := HB.out.box.new; have := HB.out.box.old; omega))
   case h1 =>
    intro W hI hl
    have hN : Nodes (g + 1) W (.slice q.p q.n q.cap) t.kids := hl.1.2 rfl
    have h8 : IsTs (fun b => N0 ≤ b) W (.slice (some ⟨g8, 0, none⟩) 1 1) l8 ∧ ∃ e, l8 = [Tree.mk 35 ⟨#[]⟩ ax [e]] ∧ Got (E) (.ok (i9 + 1)) e := hl.2 ⟨9, .data⟩ (by simp) rfl
    exact sx_pushA rfl (.tmp 145) (.tmp 153) rfl rfl rfl hI (by decide) hN (by have := lt_heap HB.out.box.z; omega) (fun b e => (HO.out b e).2.1) (A := (fun b => N0 ≤ b)) (fun b hb => ⟨by have := HGN.out; omega, fun e => by have := (HOW.out b e).1; omega⟩) (h8.1) (by omega) (by obtain ⟨e, he, hg⟩ := h8.2; exact ⟨e, by rw [he], hg⟩)
   rintro ⟨v9, l9⟩
   rw [tyList_f]
   go_simp
   apply wpMany_cons (t := tvIs (.pointer (some ⟨g, 3, none⟩))) (tvIs_goodS _ _)
   case h1 =>
    intro W hI hl
    unfold oneAt
    go_simp
    exact sx_is (by decide) (by decide)
   intro _
   rw [tvIs_f]
   go_simp
   apply wpMany_nil (Ts := [])
   intro w40 hI hFa
   have h5 : IsT (fun b => w17.heap.size ≤ b) w40 q5 t5 ∧ RrAt r (after (E) (.ok (i9 + 1))) s w40 ∧ Got (E) (.ok (i9 + 1)) t5 := hFa 6
   have hrr := h5.2.1
   have h9 : Nodes (g + 1) w40 v9 l9 ∧ (∃ e, l9 = t.kids ++ [Tree.mk 35 ⟨#[]⟩ ax [e]] ∧ Got (E) (.ok (i9 + 1)) e) ∧ _ := hFa 10
   obtain ⟨h9, ⟨e6, rfl, hg6⟩, -⟩ := h9
   obtain ⟨p7, c7, rfl, -, -⟩ := h9.slice
   obtain ⟨n7, e7⟩ : ∃ n7, (t.kids ++ [Tree.mk 35 ⟨#[]⟩ ax [e6]]).length = n7 := ⟨_, rfl⟩
   rw [e7] at h9 ⊢
   clear e7
   replace HD := Lib.hid (HD.out.step hg6)
   have HBX := Lib.hid (hI.box HB.out.box HOG.out)
   replace HB := Lib.hid (HB.out.store HBX.out h9)
   replace HT := Lib.hid ((hI.st HT.out hrr (fun b e => by have := (HO.out b e).2.2.1; have := HBX.out.new; omega)).poke g 3 (.slice p7 n7 c7) HBX.out.new)
   have HK7 : Hid (Tree.mk t.kind t.text t.at_ (t.kids ++ [Tree.mk 35 ⟨#[]⟩ ax [e6]]) = .mk 30 ⟨#[]⟩ a (t.kids ++ [Tree.mk 35 ⟨#[]⟩ ax [e6]])) := by show _ = _; rw [HKT.out]; rfl
   obtain ⟨b0, b1, b2, b3⟩ := HBX.out.cells
   have fz := HBX.out.warm'
   have hf8 : (t.kids ++ [Tree.mk 35 ⟨#[]⟩ ax [e6]]).length + f' = r.L.length + 1 := by rw [List.length_append]; simp only [List.length_cons, List.length_nil]; omega
   clear hI hFa h5 h9 hrr HO HRW HOG HKT
   go_wp2_with fail
   clear b0 b1 b2 b3 fz HBX
   generalize w40.setCell ⟨g, 3, none⟩ (.slice p7 n7 c7) = w41 at *
   obtain ⟨q8, hq8⟩ : ∃ q8 : Raw, q8 = ⟨q.kind, q.text, q.at_, p7, n7, c7⟩ := ⟨_, rfl⟩
   obtain ⟨t8, ht8⟩ : ∃ t8, t8 = Tree.mk t.kind t.text t.at_ (t.kids ++ [Tree.mk 35 ⟨#[]⟩ ax [e6]]) := ⟨_, rfl⟩
   have hk8 : t8.kids = t.kids ++ [Tree.mk 35 ⟨#[]⟩ ax [e6]] := by rw [ht8]; rfl
   rw [← hq8, ← ht8] at HB
   rw [← ht8, ← hk8] at HK7
   rw [← hk8] at hf8
   clear hq8 ht8
   refine (need_r r _ s ⟨#[59]⟩ _ HT.out.rr HE.out HK.out (by decide) (known_of (by decide))).mono ?_
   rintro e w42 ⟨rfl, hr, hm⟩
   replace HD := Lib.hid (HD.out.step (Got.unit _ _))
   replace HT := Lib.hid (HT.out.on hr hm)
   replace HB := Lib.hid (HB.out.on hm)
   clear hr hm
   have HGE : Hid (Geq (i9 + 1) (after (needM r ⟨#[59]⟩) (after E (.ok (i9 + 1))))) := (HG0.out.after hupE.up).after (ups_need r _).up
   generalize after (needM r ⟨#[59]⟩) (after E (.ok (i9 + 1))) = σ42 at HT HD HGE
   replace HD : Hid (Due P2 σ2 (stH r E Bk a f' t8.kids) σ42) := by rw [hk8]; exact HD
   have hrm := roomOf_eq HT.out.rr
   go_wp2_with fail
   go_roundw
   case rel => exact ⟨f', q8, t8, σ42, HT.out, HB.out, HD.out, HK7.out, by first | exact hf8 | (rw [hk8]; exact hf8) | (rw [hk8]; simpa using hf8), fun i e => by have := HGE.out i e; omega⟩
   case measure =>
    rw [hrm, HRM.out]
    cases σ42 with
    | ok j => have := HGE.out j rfl; have := HT.out.rr.lt; simp only [room]; omega
    | error k => simp only [room]; omega
  rw [took_false HTK.out] at HT HD
  clear HTK hz
  have hw : IntKind.i64.wrap (lv + 1) = lv + 1 := IntWalk.i64_in _ (by omega)
  go_wp2_with fail
  refine (HEX.out _ _ HOK.out HT.out.rr).mono ?_
  rintro e w18 ⟨q1, t1, rfl, ht, hr, hm, hg⟩
  have HI := Lib.hid (ht.mono (A' := fun b => N0 ≤ b) (fun b hb => Nat.le_trans HN0.out hb))
  replace HD := Lib.hid (HD.out.step hg)
  replace HN0 : Hid (N0 ≤ _) := Nat.le_trans HN0.out hm.size
  replace HT := Lib.hid (HT.out.on hr hm)
  replace HX := Lib.hid (HX.out.on hm)
  replace HB := Lib.hid (HB.out.on hm)
  clear hr hm hg ht
  have HG0 : Hid (Geq (i9 + 1) (after E (.ok i9))) := fun j e => hupE.after e
  generalize after E (.ok i9) = σ18 at HT HD HG0
  unfold ndC
  go_wp2_with fail
  have HV := Lib.hid (VarA.first HT.out HI.out)
  have hbx := boxB w18 (.cells (ndC q1) 40)
  have HG3 := HN0
  replace HN0 : Hid (N0 ≤ _) := Nat.le_trans HN0.out hbx.size
  replace HT := Lib.hid (HT.out.on (HT.out.rr.below hbx) (Mv.of_below hbx))
  replace HX := Lib.hid (HX.out.on (Mv.of_below hbx))
  replace HB := Lib.hid (HB.out.on (Mv.of_below hbx))
  clear hbx HI
  unfold ndC at HV HT HX HB HN0
  obtain ⟨g3, hg⟩ : ∃ g, w18.heap.size = g := ⟨_, rfl⟩
  rw [hg] at HV HG3 ⊢
  generalize w18.alloc (.cells #[.int .i64 q1.kind, .string q1.text, .int .i64 q1.at_, .slice q1.p q1.n q1.cap] 40) = w19 at *
  clear hg
  have HOG3 : Hid ((Value.slice q.p q.n q.cap).ownBlock ≠ some g3) := fun e => by have := (HOW.out g3 e).1; have := HG3.out; omega
  refine (take_r r _ s ⟨#[125]⟩ _ HT.out.rr HE.out HK.out (by decide) (known_of (by decide))).mono ?_
  rintro e w20 ⟨b, rfl, hr, hm, hg, hz⟩
  replace HD := Lib.hid (HD.out.step hg)
  replace HN0 : Hid (N0 ≤ _) := Nat.le_trans HN0.out hm.size
  replace HT := Lib.hid (HT.out.on hr hm)
  replace HX := Lib.hid (HX.out.on hm)
  replace HB := Lib.hid (HB.out.on hm)
  replace HV := Lib.hid (HV.out.on (fun b hb => by have := HGN.out; have := HB.out.box.new; have := HB.out.box.old; have hb2 : N0 ≤ b := hb; omega) hm)
  clear hr hm hg
  cases b
  rotate_left
  ·replace HD := Lib.hid (HD.out.to (Q' := ndM 30 ⟨#[]⟩ a (t.kids ++ [t1])) rfl)
   clear hz
   have hbx := boxB w20 (.cells #[.int .i64 q1.kind, .string q1.text, .int .i64 q1.at_, .slice q1.p q1.n q1.cap] 40)
   have hrow : IsTs (fun b => N0 ≤ b) (w20.alloc (.cells #[.int .i64 q1.kind, .string q1.text, .int .i64 q1.at_, .slice q1.p q1.n q1.cap] 40)) (.slice (some ⟨w20.heap.size, 0, none⟩) 1 1) [t1] := IsTs.rowAt _ [q1] [t1] (heap_alloc_new w20 _) rfl rfl rfl (by decide) (by decide) HN0.out (fun i a b => match i, a, b with | 0, _, _ => HV.out.tree.later hbx | i + 1, c, _ => absurd c (by simp))
   have hnn := HB.out.nodes.but0 (But.of_below hbx)
   have HT2 := Lib.hid (HT.out.on (HT.out.rr.below hbx) (Mv.of_below hbx))
   have HB2 := Lib.hid (HB.out.on (Mv.of_below hbx))
   obtain ⟨b0, b1, b2, b3⟩ := HB.out.box.cells
   obtain ⟨v0, v1, v2, v3⟩ := HV.out.box.cells
   go_wp2_with (at_builtin; go_must (refine wpList_pushRr (A := fun b => N0 ≤ b) (B := g + 1) (o := ⟨some 35, _, _, _, _, _⟩) rfl (.tmp 32) (.tmp 34) rfl rfl rfl hnn (by have := lt_heap HB2.out.box.z; omega) (by omega) hrow (fun b hb => ⟨by have := HGN.out; have hb2 : N0 ≤ b := hb; omega, fun e => by have := (HOW.out b e).1; have hb2 : N0 ≤ b := hb; omega⟩) ?_; intro v9 w21 hn2 hg2; have hpu := HB2.out.push HT2.out hn2 hg2; obtain ⟨p7, c7, rfl, -, -⟩ := hn2.slice; obtain ⟨n7, e7⟩ : ∃ n7, (t.kids ++ [t1]).length = n7 := ⟨_, rfl⟩; rw [e7] at hn2 ⊢; clear e7; obtain ⟨bb0, bb1, bb2, bb3⟩ := hpu.1.cells; have ff := hpu.1.warm'; rename_i KK hKK; have HKK := Lib.hid hKK; clear hKK))
   refine HKK.out _ _ ?_
   clear HKK bb0 bb1 bb2 bb3 ff b0 b1 b2 b3 v0 v1 v2 v3 hnn hrow hbx
   have HK7 : Hid (Tree.mk t.kind t.text t.at_ (t.kids ++ [t1]) = .mk 30 ⟨#[]⟩ a (t.kids ++ [t1])) := by show _ = _; rw [HKT.out]; rfl
   replace HD := Lib.hid (HD.out.to (Q' := pureM (Tree.mk t.kind t.text t.at_ (t.kids ++ [t1]))) (congrArg pureM HK7.out.symm))
   have HB3 := Lib.hid (HB2.out.store hpu.1 hn2)
   have HT3 := Lib.hid (hpu.2.poke g 3 (.slice p7 n7 c7) hpu.1.new)
   clear HT HB HT2 HB2 HV HX hpu hn2 hg2
   have HT := HT3
   have HB := HB3
   clear HT3 HB3
   generalize w21.setCell ⟨g, 3, none⟩ (.slice p7 n7 c7) = w41 at *
   obtain ⟨b0, b1, b2, b3⟩ := HB.out.box.cells
   have HW := Lib.hid (HT.out.ret (q := ⟨q.kind, q.text, q.at_, p7, n7, c7⟩) (HB.out.tree))
   obtain ⟨d0, d1, d2, d3, f0⟩ := HT.out.res.cells
   try unfold ndC
   go_wp2_with fail
   obtain ⟨hcell, hist, hrr, hmv⟩ := HW.out
   exact bodyPost_ret (results_cellT rfl _ _ _ ⟨w.heap.size, 0, none⟩ _ rfl (load_node _ _ ⟨q.kind, q.text, q.at_, p7, n7, c7⟩ hcell)) rfl (HD0.out.lift (HD.out.postP hist hrr hmv))
  clear hz
  go_wp2_with fail
  replace HG0 : Hid (Geq (i9 + 1) (after (tookM r ⟨#[125]⟩) σ18)) := HG0.out.after (up_took r _)
  generalize after (tookM r ⟨#[125]⟩) σ18 = σ20 at HT HD HG0
  have HPL := Lib.hid HV.out.tree.parts.2.2.1
  have HOG : Hid ((Value.slice q.p q.n q.cap).ownBlock ≠ some g) := fun e => by have := (HB.out.own g e).2.2.1; omega
  have HO : Hid (∀ b, (Value.slice q.p q.n q.cap).ownBlock = some b → r.b < b ∧ b < w20.heap.size ∧ g < b ∧ w.heap.size ≤ b) := HB.out.own
  have HRW : Hid (r.b < w20.heap.size) := HT.out.rr.rb
  apply wp_region_many 10 (Sx r (Value.slice q.p q.n q.cap).ownBlock 999 8) (InvX r w (Value.slice q.p q.n q.cap).ownBlock w20) (F0x r σ20 s (g + 1) (.slice q.p q.n q.cap) t.kids 999 8)
  case hIS => exact fun i x y hs hi => hi.step i hs (fun b e => (HO.out b e).2.2.2)
  case hk0 => exact F0x.keeps (by have := HB.out.box.new; have := HB.out.box.old; omega) (fun b e => by have := HO.out b e; omega)
  case hm => kernel_rfl
  case hB => kernel_rfl
  case h0 => exact InvX.start HT.out.mv
  case h1 => exact F0x.start HT.out.rr HB.out.nodes
  simp only [List.take_succ_cons, List.take_zero, List.drop_succ_cons, List.drop_zero]
  apply wpMany_cons (t := tvIs (.pointer (some ⟨g, 3, none⟩))) (tvIs_goodS _ _)
  case h1 =>
   intro W hI hl
   unfold oneAt
   go_simp
   exact sx_is (by decide) (by decide)
  intro _
  rw [tvIs_f]
  go_simp
  apply wpMany_cons (t := tvIs (.slice q.p q.n q.cap)) (tvIs_goodS _ _)
  case h1 =>
   intro W hI hl
   obtain ⟨b0, b1, b2, b3⟩ := (hI.box HB.out.box HOG.out).cells
   unfold oneAt
   go_simp
   exact sx_is (by decide) (by decide)
  intro _
  rw [tvIs_f]
  go_simp
  apply wpMany_cons (t := tvIs (.pointer (some ⟨g3, 2, none⟩))) (tvIs_goodS _ _)
  case h1 =>
   intro W hI hl
   unfold oneAt
   go_simp
   exact sx_is (by decide) (by decide)
  intro _
  rw [tvIs_f]
  go_simp
  apply wpMany_cons (t := tvIs (.int .i64 q1.at_)) (tvIs_goodS _ _)
  case h1 =>
   intro W hI hl
   obtain ⟨b0, b1, b2, b3⟩ := (hI.box HV.out.box HOG3.out).cells
   unfold oneAt
   go_simp
   exact sx_is (by decide) (by decide)
  intro _
  rw [tvIs_f]
  go_simp
  apply wpMany_cons (t := tvIs (.agg #[.int .i64 q1.kind, .string q1.text, .int .i64 q1.at_, .slice q1.p q1.n q1.cap])) (tvIs_goodS _ _)
  case h1 =>
   intro W hI hl
   obtain ⟨b0, b1, b2, b3⟩ := (hI.box HV.out.box HOG3.out).cells
   unfold oneAt
   go_simp
   exact sx_is (by decide) (by decide)
  intro _
  rw [tvIs_f]
  go_simp
  apply wpMany_cons (t := tyRowA (fun b => N0 ≤ b) 1 (fun l => l = [t1])) (tyRowA_good (fun b hb => ⟨by have := HB.out.box.new; have := HB.out.box.old; have := HGN.out; omega, fun e => by have := (HOW.out b e).1; omega⟩))
  case h1 =>
   intro W hI hl
   have hvt := hI.tree HV.out.tree (fun b hb => ⟨by have := HB.out.box.new; have := HB.out.box.old; have := HGN.out; omega, fun e => by have := (HOW.out b e).1; omega⟩)
   unfold oneAt
   go_simp
   exact sx_rowA [q1] [t1] hI (fun b hb => by have := HN0.out; omega) (by decide) (by decide) rfl rfl rfl (by decide) (by decide) (fun i a b => match i, a, b with | 0, _, _ => hvt | i + 1, c, _ => absurd c (by simp)) (rfl)
  rintro ⟨g6, l6⟩
  rw [tyRowA_f]
  go_simp
  apply wpMany_cons (t := tyNodeA (fun b => N0 ≤ b) (fun u => u = Tree.mk 36 ⟨#[]⟩ q1.at_ [t1])) (tyNodeA_good (fun b hb => ⟨by have := HB.out.box.new; have := HB.out.box.old; have := HGN.out; omega, fun e => by have := (HOW.out b e).1; omega⟩))
  case h1 =>
   intro W hI hl
   have h6 : IsTs (fun b => N0 ≤ b) W (.slice (some ⟨g6, 0, none⟩) 1 1) l6 ∧ l6 = [t1] := hl.2 ⟨5, .data⟩ (by simp) rfl
   unfold oneAt
   go_simp
   exact sx_nodeA hI (by decide) (by decide) (h6.1) (by rw [h6.2]) (rLeaf_any (36) (⟨#[]⟩) (q1.at_) (some ⟨g6, 0, none⟩) 1 1 W)
  rintro ⟨q7, t7⟩
  rw [tyNodeA_f]
  unfold ndC
  go_simp
  apply wpMany_cons (t := tyRowA (fun b => N0 ≤ b) 1 (fun l => l = [Tree.mk 36 ⟨#[]⟩ q1.at_ [t1]])) (tyRowA_good (fun b hb => ⟨by have := HB.out.box.new; have := HB.out.box.old; have := HGN.out; omega, fun e => by have := (HOW.out b e).1; omega⟩))
  case h1 =>
   intro W hI hl
   have h7 : IsT (fun b => N0 ≤ b) W q7 t7 ∧ t7 = Tree.mk 36 ⟨#[]⟩ q1.at_ [t1] := hl.2 ⟨6, .data⟩ (by simp) rfl
   unfold oneAt
   go_simp
   exact sx_rowA [q7] [t7] hI (fun b hb => by have := HN0.out; omega) (by decide) (by decide) rfl rfl rfl (by decide) (by decide) (fun i a b => match i, a, b with | 0, _, _ => h7.1 | i + 1, c, _ => absurd c (by simp)) (by rw [h7.2])
  rintro ⟨g8, l8⟩
  rw [tyRowA_f]
  go_simp
  apply wpMany_cons (t := tyList (g + 1) (Value.slice q.p q.n q.cap).ownBlock w20 (fun l => l = t.kids ++ [Tree.mk 36 ⟨#[]⟩ q1.at_ [t1]])) (tyList_good (by have := HB.out.box.new; have := HB.out.box.old; omega))
  case h1 =>
   intro W hI hl
   have hN : Nodes (g + 1) W (.slice q.p q.n q.cap) t.kids := hl.1.2 rfl
   have h8 : IsTs (fun b => N0 ≤ b) W (.slice (some ⟨g8, 0, none⟩) 1 1) l8 ∧ l8 = [Tree.mk 36 ⟨#[]⟩ q1.at_ [t1]] := hl.2 ⟨7, .data⟩ (by simp) rfl
   exact sx_pushA rfl (.tmp 39) (.tmp 45) rfl rfl rfl hI (by decide) hN (by have := lt_heap HB.out.box.z; omega) (fun b e => (HO.out b e).2.1) (A := (fun b => N0 ≤ b)) (fun b hb => ⟨by have := HGN.out; omega, fun e => by have := (HOW.out b e).1; omega⟩) (h8.1) (by omega) (by rw [h8.2])
  rintro ⟨v9, l9⟩
  rw [tyList_f]
  go_simp
  apply wpMany_cons (t := tvIs (.pointer (some ⟨g, 3, none⟩))) (tvIs_goodS _ _)
  case h1 =>
   intro W hI hl
   unfold oneAt
   go_simp
   exact sx_is (by decide) (by decide)
  intro _
  rw [tvIs_f]
  go_simp
  apply wpMany_nil (Ts := [])
  intro w40 hI hFa
  have h5 : (999 = 999 → RrAt r σ20 s w40) ∧ _ := hFa 999
  have hrr := h5.1 rfl
  have h9 : Nodes (g + 1) w40 v9 l9 ∧ (l9 = t.kids ++ [Tree.mk 36 ⟨#[]⟩ q1.at_ [t1]]) ∧ _ := hFa 8
  obtain ⟨h9, rfl, -⟩ := h9
  obtain ⟨p7, c7, rfl, -, -⟩ := h9.slice
  obtain ⟨n7, e7⟩ : ∃ n7, (t.kids ++ [Tree.mk 36 ⟨#[]⟩ q1.at_ [t1]]).length = n7 := ⟨_, rfl⟩
  rw [e7] at h9 ⊢
  clear e7
  have HBX := Lib.hid (hI.box HB.out.box HOG.out)
  replace HB := Lib.hid (HB.out.store HBX.out h9)
  replace HT := Lib.hid ((hI.st HT.out hrr (fun b e => by have := (HO.out b e).2.2.1; have := HBX.out.new; omega)).poke g 3 (.slice p7 n7 c7) HBX.out.new)
  have HK7 : Hid (Tree.mk t.kind t.text t.at_ (t.kids ++ [Tree.mk 36 ⟨#[]⟩ q1.at_ [t1]]) = .mk 30 ⟨#[]⟩ a (t.kids ++ [Tree.mk 36 ⟨#[]⟩ q1.at_ [t1]])) := by show _ = _; rw [HKT.out]; rfl
  obtain ⟨b0, b1, b2, b3⟩ := HBX.out.cells
  have fz := HBX.out.warm'
  have hf8 : (t.kids ++ [Tree.mk 36 ⟨#[]⟩ q1.at_ [t1]]).length + f' = r.L.length + 1 := by rw [List.length_append]; simp only [List.length_cons, List.length_nil]; omega
  clear hI hFa h5 h9 hrr HO HRW HOG HKT
  go_wp2_with fail
  clear b0 b1 b2 b3 fz HBX
  generalize w40.setCell ⟨g, 3, none⟩ (.slice p7 n7 c7) = w41 at *
  obtain ⟨q8, hq8⟩ : ∃ q8 : Raw, q8 = ⟨q.kind, q.text, q.at_, p7, n7, c7⟩ := ⟨_, rfl⟩
  obtain ⟨t8, ht8⟩ : ∃ t8, t8 = Tree.mk t.kind t.text t.at_ (t.kids ++ [Tree.mk 36 ⟨#[]⟩ q1.at_ [t1]]) := ⟨_, rfl⟩
  have hk8 : t8.kids = t.kids ++ [Tree.mk 36 ⟨#[]⟩ q1.at_ [t1]] := by rw [ht8]; rfl
  rw [← hq8, ← ht8] at HB
  rw [← ht8, ← hk8] at HK7
  rw [← hk8] at hf8
  clear hq8 ht8
  rw [show Tree.mk 36 ⟨#[]⟩ q1.at_ [t1] = .mk 36 ⟨#[]⟩ t1.at_ [t1] from by rw [HPL.out]] at hk8
  refine (need_r r _ s ⟨#[59]⟩ _ HT.out.rr HE.out HK.out (by decide) (known_of (by decide))).mono ?_
  rintro e w42 ⟨rfl, hr, hm⟩
  replace HD := Lib.hid (HD.out.step (Got.unit _ _))
  replace HT := Lib.hid (HT.out.on hr hm)
  replace HB := Lib.hid (HB.out.on hm)
  clear hr hm
  have HGE : Hid (Geq (i9 + 1) (after (needM r ⟨#[59]⟩) σ20)) := (HG0.out).after (ups_need r _).up
  generalize after (needM r ⟨#[59]⟩) σ20 = σ42 at HT HD HGE
  replace HD : Hid (Due P2 σ2 (stH r E Bk a f' t8.kids) σ42) := by rw [hk8]; exact HD
  have hrm := roomOf_eq HT.out.rr
  go_wp2_with fail
  go_roundw
  case rel => exact ⟨f', q8, t8, σ42, HT.out, HB.out, HD.out, HK7.out, by first | exact hf8 | (rw [hk8] at hf8 ⊢; exact hf8) | (rw [hk8] at hf8 ⊢; simpa using hf8), fun i e => by have := HGE.out i e; omega⟩
  case measure =>
   rw [hrm, HRM.out]
   cases σ42 with
   | ok j => have := HGE.out j rfl; have := HT.out.rr.lt; simp only [room]; omega
   | error k => simp only [room]; omega
end Go.Proofs.YtgcaeimlmkkeoaaGreat
