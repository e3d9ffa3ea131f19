/-
  CONTRACTS: the reference's reader: post, unary.
-/
import Derived.Test.YtgcaeimlmkkeoaaGreatZR4
set_option linter.unusedSimpArgs false
set_option linter.unusedVariables false
namespace Go.Proofs.YtgcaeimlmkkeoaaGreat
open Go Go.RowKit
def dotsR (r : Rdr) : Nat → Tree → PM Tree
 | 0, t => bindM (tookM r ⟨#[46]⟩) fun b => match b with
  | false => pureM t
  | true => failM
 | f + 1, t => bindM (tookM r ⟨#[46]⟩) fun b => match b with
  | false => pureM t
  | true => bindM (nameM r) fun nm => dotsR r f (.mk 26 nm t.at_ [t])
def dotsN (r : Rdr) (C : Nat → Tree → PM Tree) : Nat → Tree → PM Tree
 | 0, _ => failM
 | f + 1, t => bindM (nameM r) fun nm => C f (.mk 26 nm t.at_ [t])
theorem dotsR_eq (r : Rdr) (f : Nat) (t : Tree) : dotsR r f t = bindM (tookM r ⟨#[46]⟩) fun b => match b with
  | false => pureM t
  | true => dotsN r (dotsR r) f t := by cases f <;> rfl
def postR (r : Rdr) (prim : PM Tree) : PM Tree := bindM prim fun t => dotsR r (r.L.length + 1) t
def unaryB (r : Rdr) (post sub : PM Tree) : PM Tree := bindM (hereM r) fun a => wordsR r (fun w => bindM sub fun t => ndM 27 w a [t]) post Vun
def unaryR (r : Rdr) (post sub : PM Tree) (lv : Int) : PM Tree := bindM (deepM lv) fun _ => unaryB r post sub
set_option maxRecDepth 100000 in
set_option maxHeartbeats 4000000 in
theorem rPost_any (r : Rdr) (σ : Except Nat Nat) (s : Bool) (prim : PM Tree) (lv : Int) (w : World) (h : RrAt r σ s w) (hE : EndAt r) (hK : Known r.L) (hP : ∀ σ1 w1, Err σ σ1 → RrAt r σ1 s w1 → Calls Tryz.prog 147 #[.pointer (some ⟨r.b, 0, none⟩), .int .i64 lv] w1 (RrPost r prim σ1 s w1)) :
  Calls Tryz.prog 141 #[.pointer (some ⟨r.b, 0, none⟩), .int .i64 lv] w (RrPost r (postR r prim) σ s w) := by
 have HT := Lib.hid (St.start h)
 have HE := Lib.hid hE
 have HK := Lib.hid hK
 have HPT := Lib.hid hP
 obtain ⟨P, hP⟩ : ∃ P, (postR r prim) = P := ⟨_, rfl⟩
 have hd : Due P σ (postR r prim) σ := by rw [hP]; exact Due.refl _ _
 rw [hP]
 clear hP
 unfold postR at hd
 have HD := Lib.hid hd
 clear h hE hK hd hP
 go_enter Tryz.func141, Tryz.ntmps141
 go_wp2_with fail
 generalize w.alloc (.cells #[.int .i64 0, .string ⟨#[]⟩, .int .i64 0, .slice none 0 0] 40) = w1 at *
 refine (HPT.out _ _ HD.out.er HT.out.rr).mono ?_
 rintro e w3 ⟨q1, t1, rfl, ht, hr, hm, hg⟩
 have HI := Lib.hid (ht.mono (fun b hb => Nat.lt_of_lt_of_le HT.out.up hb))
 replace HD := Lib.hid (HD.out.step hg)
 replace HT := Lib.hid (HT.out.on hr hm)
 clear hr hm hg ht
 unfold ndC
 go_wp2_with fail
 have HB := Lib.hid (Var.first HT.out HI.out)
 have hbx := boxB w3 (.cells (ndC q1) 40)
 replace HT := Lib.hid (HT.out.on (HT.out.rr.below hbx) (Mv.of_below hbx))
 clear hbx HI
 unfold ndC at HB HT
 obtain ⟨g, hg⟩ : ∃ g, w3.heap.size = g := ⟨_, rfl⟩
 rw [hg] at HB ⊢
 generalize w3.alloc (.cells #[.int .i64 q1.kind, .string q1.text, .int .i64 q1.at_, .slice q1.p q1.n q1.cap] 40) = w4 at *
 clear hg
 generalize after prim _ = σ4 at HT HD
 go_loopw [6] (fun x wr => ∃ (f : Nat) (q : Raw) (t : Tree) (σ9 : Except Nat Nat), Hid (St r w σ9 s wr) ∧ Hid (Var r w g q t wr) ∧ Hid (Due P σ (dotsR r f t) σ9) ∧ ∀ i, σ9 = .ok i → r.L.length ≤ f + i) (fun _ wr => roomOf r wr)
 case atStart => exact ⟨r.L.length + 1, q1, t1, σ4, HT.out, HB.out, HD.out, fun i e => by omega⟩
 case round =>
  clear HT HB HD
  obtain ⟨f, q, t, σ9, HT, HB, HD, HI0⟩ := hrel
  have HRM := Lib.hid (roomOf_eq HT.out.rr)
  replace HD := Lib.hid (HD.out.to (dotsR_eq r f t))
  go_wp2_with fail
  have HT0 := HT
  refine (take_r r _ s ⟨#[46]⟩ _ HT.out.rr HE.out HK.out (by decide) (known_of (by decide))).mono ?_
  rintro e w10 ⟨b, rfl, hr, hm, hg, hz⟩
  have HTK := Lib.hid hg
  replace HD := Lib.hid (HD.out.step hg)
  replace HT := Lib.hid (HT.out.on hr hm)
  replace HB := Lib.hid (HB.out.on hm)
  clear hr hm hg
  cases b
  ·obtain ⟨b0, b1, b2, b3⟩ := HB.out.box.cells
   have HW := Lib.hid (HT.out.ret (q := q) (HB.out.val))
   obtain ⟨d0, d1, d2, d3, f0⟩ := HT.out.res.cells
   try unfold ndC
   go_wp2_with fail
   obtain ⟨hcell, hist, hrr, hmv⟩ := HW.out
   exact bodyPost_ret (results_cellT rfl _ _ _ ⟨w.heap.size, 0, none⟩ _ rfl (load_node _ _ q hcell)) rfl (HD.out.postP hist hrr hmv)
  ·obtain ⟨i9, hi9, ha9⟩ := took_true HTK.out hz
   have hfi := HI0 i9 hi9
   have hlt := HT0.out.rr
   rw [hi9] at hlt
   have hlt := hlt.lt
   obtain ⟨f', rfl⟩ : ∃ f', f = f' + 1 := ⟨f - 1, by omega⟩
   rw [ha9] at HT HD
   have HRM2 : Hid (roomOf r wr = r.L.length + 1 - i9) := by have := HRM.out; rw [hi9] at this; exact this
   clear HRM HT0 HTK ha9 hz hi9 HI0
   go_wp2_with fail
   refine (name_r r _ s _ HT.out.rr HE.out).mono ?_
   rintro e w11 ⟨nm, rfl, hr, hm, hg⟩
   replace HD := Lib.hid (HD.out.step hg)
   replace HT := Lib.hid (HT.out.on hr hm)
   replace HB := Lib.hid (HB.out.on hm)
   clear hr hm hg
   have hup9 : ∀ j, after (nameM r) (.ok (i9 + 1)) = .ok j → i9 + 1 ≤ j := fun j e => (ups_name r).up.after e
   generalize after (nameM r) (.ok (i9 + 1)) = σ7 at HT HD hup9
   obtain ⟨b0, b1, b2, b3⟩ := HB.out.box.cells
   go_wp2_with fail
   have hbx := boxB w11 (.cells #[.int .i64 q.kind, .string q.text, .int .i64 q.at_, .slice q.p q.n q.cap] 40)
   have hrow : IsT (since w g) (w11.alloc (.cells #[.int .i64 q.kind, .string q.text, .int .i64 q.at_, .slice q.p q.n q.cap] 40)) ⟨26, nm, q.at_, some ⟨w11.heap.size, 0, none⟩, 1, 1⟩ (.mk 26 nm q.at_ [t]) := IsT.one (q1 := q) 26 nm q.at_ (heap_alloc_new w11 _) (by have := lt_heap HB.out.box.z; have := HB.out.box.new; exact ⟨by omega, by omega⟩) ((HB.out.tree).later hbx)
   replace HT := Lib.hid (HT.out.on (HT.out.rr.below hbx) (Mv.of_below hbx))
   replace HB := Lib.hid (HB.out.on (Mv.of_below hbx))
   have HN := Lib.hid hrow
   have HPL := Lib.hid HB.out.tree.parts.2.2.1
   clear hbx hrow b0 b1 b2 b3
   obtain ⟨g6, hg6⟩ : ∃ g6, w11.heap.size = g6 := ⟨_, rfl⟩
   rw [hg6] at HN ⊢
   generalize w11.alloc (.cells #[.int .i64 q.kind, .string q.text, .int .i64 q.at_, .slice q.p q.n q.cap] 40) = w12 at *
   clear hg6
   refine (leaf_r 26 nm q.at_ (some ⟨g6, 0, none⟩) 1 1 _ HT.out.rr).mono ?_
   rintro e w22 ⟨rfl, hr, hm⟩
   replace HT := Lib.hid (HT.out.on hr hm)
   replace HB := Lib.hid (HB.out.on hm)
   replace HN := Lib.hid (HN.out.mvG hm (fun b hb => by have := hb.1; have := HB.out.box.old; omega))
   clear hr hm
   have hst := HB.out.store HT.out HN.out
   obtain ⟨b0, b1, b2, b3⟩ := HB.out.box.cells
   have fz := HB.out.box.warm'
   replace HT := Lib.hid hst.1
   replace HB := Lib.hid hst.2
   rw [show Tree.mk 26 nm q.at_ [t] = .mk 26 nm t.at_ [t] from by rw [HPL.out]] at HB
   clear hst HN
   unfold ndC
   go_wp2_with fail
   clear b0 b1 b2 b3 fz
   generalize (((w22.setCell ⟨g, 0, none⟩ (.int .i64 26)).setCell ⟨g, 1, none⟩ (.string nm)).setCell ⟨g, 2, none⟩ (.int .i64 q.at_)).setCell ⟨g, 3, none⟩ (.slice (some ⟨g6, 0, none⟩) 1 1) = w23 at *
   have hrm := roomOf_eq HT.out.rr
   go_roundw
   case rel => exact ⟨f', _, _, σ7, HT.out, HB.out, HD.out, fun i e => by have := hup9 i e; omega⟩
   case measure =>
    rw [hrm, HRM2.out]
    cases σ7 with
    | ok j => have := hup9 j rfl; have := HT.out.rr.lt; simp only [room]; omega
    | error k => simp only [room]; omega
set_option maxRecDepth 100000 in
set_option maxHeartbeats 4000000 in
theorem rUnary_any (r : Rdr) (σ : Except Nat Nat) (s : Bool) (post sub : PM Tree) (lv : Int) (hlv : 1 ≤ lv ∧ lv ≤ 1000) (w : World) (h : RrAt r σ s w) (hE : EndAt r) (hK : Known r.L) (hS : ∀ σ1 w1, (∃ j, after (deepM lv) σ = .ok j) → RrAt r σ1 s w1 → Calls Tryz.prog 137 #[.pointer (some ⟨r.b, 0, none⟩), .int .i64 (lv + 1)] w1 (RrPost r sub σ1 s w1)) (hP : ∀ σ1 w1, Err (after (deepM lv) σ) σ1 → RrAt r σ1 s w1 → Calls Tryz.prog 141 #[.pointer (some ⟨r.b, 0, none⟩), .int .i64 (lv)] w1 (RrPost r post σ1 s w1)) :
  Calls Tryz.prog 137 #[.pointer (some ⟨r.b, 0, none⟩), .int .i64 lv] w (RrPost r (unaryR r post sub lv) σ s w) := by
 have HT := Lib.hid (St.start h)
 have HE := Lib.hid hE
 have HK := Lib.hid hK
 have HS0 := Lib.hid hS
 have HP0 := Lib.hid hP
 obtain ⟨P, hP⟩ : ∃ P, (unaryR r post sub lv) = P := ⟨_, rfl⟩
 have hd : Due P σ (unaryR r post sub lv) σ := by rw [hP]; exact Due.refl _ _
 rw [hP]
 clear hP
 unfold unaryR at hd
 have HD := Lib.hid hd
 clear h hE hK hd hS hP
 go_enter Tryz.func137, Tryz.ntmps137
 go_wp2_with fail
 generalize w.alloc (.cells #[.int .i64 0, .string ⟨#[]⟩, .int .i64 0, .slice none 0 0] 40) = w1 at *
 refine (deep_r r _ s lv _ HT.out.rr).mono ?_
 rintro e w2 ⟨rfl, hr, hm⟩
 replace HD := Lib.hid (HD.out.step (Got.unit _ _))
 replace HT := Lib.hid (HT.out.on hr hm)
 clear hr hm
 have HD0 := HD
 clear HD
 have HD := Lib.hid (Due.refl (unaryB r post sub) (after (deepM lv) σ))
 generalize hσ2 : after (deepM lv) σ = σ2 at HT HD HD0 HS0 HP0
 clear hσ2
 replace HD : Hid (Due (unaryB r post sub) σ2 (bindM (hereM r) fun a => wordsR r (fun w => bindM sub fun t => ndM 27 w a [t]) post Vun) σ2) := HD
 go_wp2_with fail
 refine (here_r r _ s _ HT.out.rr).mono ?_
 rintro e w3 ⟨a, rfl, hr, hm, hg⟩
 replace HD := Lib.hid (HD.out.step hg)
 replace HT := Lib.hid (HT.out.on hr hm)
 clear hr hm hg
 go_wp2_with fail
 obtain ⟨B, hB⟩ : ∃ B, w3.heap.size = B := ⟨_, rfl⟩
 have hbx := boxB w3 (.cells #[.string ⟨#[45]⟩, .string ⟨#[33]⟩] 9)
 have htx : TextsAt (w3.alloc (.cells #[.string ⟨#[45]⟩, .string ⟨#[33]⟩] 9)) B 0 Vun := by rw [← hB]; exact texts_row _ Vun rfl
 have hT3 := HT.out.on (HT.out.rr.below hbx) (Mv.of_below hbx)
 have hBr : Hid (B ≠ r.b) := by show B ≠ r.b; have := HT.out.rr.rb; omega
 replace HT := Lib.hid hT3
 have HX := Lib.hid htx
 clear hT3 htx hbx
 generalize w3.alloc (.cells #[.string ⟨#[45]⟩, .string ⟨#[33]⟩] 9) = w5 at *
 rw [hB]
 clear hB
 generalize after (hereM r) _ = σ3 at HT HD
 go_loopw [7, 15] (fun x v wr => ∃ (j : Nat) (σ4 : Except Nat Nat), j ≤ 2 ∧ v = .int .i64 j ∧ Hid (St r w σ4 s wr) ∧ Hid (Due (unaryB r post sub) σ2 (wordsR r (fun w => bindM sub fun t => ndM 27 w a [t]) post (Vun.drop j)) σ4) ∧ Hid (TextsAt wr B 0 Vun)) (fun _ v _ => 2 - (intOf v).toNat)
 case atStart => exact ⟨0, σ3, by omega, rfl, HT.out, HD.out, HX.out⟩
 case round =>
  clear HT HD HX
  obtain ⟨j, σ4, hj, rfl, HT, HD, HX⟩ := hrel
  by_cases hlt : j < 2
  ·have hlt' : j < Vun.length := hlt
   have hx := HX.out j hlt'
   have hd : Vun.drop j = Vun[j] :: Vun.drop (j + 1) := List.drop_eq_getElem_cons hlt'
   have hkn1 := Vun_full Vun[j] (List.getElem_mem _)
   have hkn2 := Vun_known Vun[j] (List.getElem_mem _)
   rw [hd] at HD
   generalize Vun[j] = sg at hx hkn1 hkn2 HD
   have HK1 := Lib.hid hkn1
   have HK2 := Lib.hid hkn2
   rw [Nat.zero_add] at hx
   have hji : (j : Int) < 2 := by omega
   clear hd hkn1 hkn2
   go_wp2_with fail
   refine (take_r r _ s sg _ HT.out.rr HE.out HK.out HK1.out HK2.out).mono ?_
   rintro e w6 ⟨b, rfl, hr, hm, hg, hz⟩
   have HTK := Lib.hid hg
   replace HD := Lib.hid (HD.out.step hg)
   replace HT := Lib.hid (HT.out.on hr hm)
   replace HX := Lib.hid (HX.out.mvT hm hBr.out)
   clear hr hm hg hx
   cases b
   ·go_wp2_with fail
    go_roundw
    case rel => exact ⟨j + 1, _, by omega, by go_num, HT.out, HD.out, HX.out⟩
    case measure => simp [intOf]; omega
   ·obtain ⟨i9, hi9, ha9⟩ := took_true HTK.out hz
    have hok := (show Err σ2 (.ok (i9 + 1)) from ha9 ▸ HD.out.er).ok
    clear HTK hz hi9 ha9
    have hw : IntKind.i64.wrap (lv + 1) = lv + 1 := IntWalk.i64_in _ (by omega)
    go_wp2_with fail
    refine (HS0.out _ _ hok HT.out.rr).mono ?_
    rintro e w7 ⟨q1, t1, rfl, ht, hr, hm, hg⟩
    have HI := Lib.hid (ht.mono (fun b hb => Nat.lt_of_lt_of_le HT.out.up hb))
    replace HD := Lib.hid (HD.out.step hg)
    replace HT := Lib.hid (HT.out.on hr hm)
    clear hr hm hg ht
    unfold ndC
    go_wp2_with fail
    have hbx := boxB w7 (.cells #[.int .i64 q1.kind, .string q1.text, .int .i64 q1.at_, .slice q1.p q1.n q1.cap] 40)
    have hrow : IsT (fun b => w.heap.size < b) (w7.alloc (.cells #[.int .i64 q1.kind, .string q1.text, .int .i64 q1.at_, .slice q1.p q1.n q1.cap] 40)) ⟨27, sg, a, some ⟨w7.heap.size, 0, none⟩, 1, 1⟩ (.mk 27 sg a [t1]) := IsT.one (q1 := q1) 27 sg a (heap_alloc_new w7 _) (HT.out.up) ((HI.out).later hbx)
    replace HT := Lib.hid (HT.out.on (HT.out.rr.below hbx) (Mv.of_below hbx))
    have HN := Lib.hid hrow
    clear hbx hrow HI
    obtain ⟨g6, hg6⟩ : ∃ g6, w7.heap.size = g6 := ⟨_, rfl⟩
    rw [hg6] at HN ⊢
    generalize w7.alloc (.cells #[.int .i64 q1.kind, .string q1.text, .int .i64 q1.at_, .slice q1.p q1.n q1.cap] 40) = w8 at *
    clear hg6
    refine (leaf_r 27 sg a (some ⟨g6, 0, none⟩) 1 1 _ HT.out.rr).mono ?_
    rintro e w22 ⟨rfl, hr, hm⟩
    replace HT := Lib.hid (HT.out.on hr hm)
    replace HN := Lib.hid (HN.out.mvG hm (fun b hb => by have := HT.out.rb; omega))
    clear hr hm
    have HW := Lib.hid (HT.out.ret (q := ⟨27, sg, a, some ⟨g6, 0, none⟩, 1, 1⟩) (HN.out))
    obtain ⟨d0, d1, d2, d3, f0⟩ := HT.out.res.cells
    try unfold ndC
    go_wp2_with fail
    obtain ⟨hcell, hist, hrr, hmv⟩ := HW.out
    exact bodyPost_ret (results_cellT rfl _ _ _ ⟨w.heap.size, 0, none⟩ _ rfl (load_node _ _ ⟨27, sg, a, some ⟨g6, 0, none⟩, 1, 1⟩ hcell)) rfl ((HD0.out.lift <| HD.out.postP hist hrr hmv))
  ·have hj2 : j = 2 := by omega
   subst hj2
   have HD2 : Hid (Due (unaryB r post sub) σ2 post σ4) := HD.out
   clear HD HX
   go_wp2_with fail
   refine (HP0.out _ _ HD2.out.er HT.out.rr).mono ?_
   rintro e w7 ⟨q1, t1, rfl, ht, hr, hm, hg⟩
   have HI := Lib.hid (ht.mono (fun b hb => Nat.lt_of_lt_of_le HT.out.up hb))
   have HG := Lib.hid hg
   have HD := HD2
   replace HT := Lib.hid (HT.out.on hr hm)
   clear hr hm hg ht
   have HW := Lib.hid (HT.out.ret (q := q1) (HI.out))
   obtain ⟨d0, d1, d2, d3, f0⟩ := HT.out.res.cells
   try unfold ndC
   go_wp2_with fail
   obtain ⟨hcell, hist, hrr, hmv⟩ := HW.out
   exact bodyPost_ret (results_cellT rfl _ _ _ ⟨w.heap.size, 0, none⟩ _ rfl (load_node _ _ q1 hcell)) rfl ((HD0.out.lift <| HD.out.post HG.out hist hrr hmv))
end Go.Proofs.YtgcaeimlmkkeoaaGreat
namespace Go.Proofs.YtgcaeimlmkkeoaaGreat
open Go Go.RowKit
/-- the contract of a rule that gives a list -/
def RrPostL (r : Rdr) (p : PM (List Tree)) (σ : Except Nat Nat) (s : Bool) (w : World) (e : Ending) (w' : World) : Prop :=
 ∃ (a : Option Addr) (n cap : Nat) (l : List Tree), e = .returned (.slice a n cap) ∧ IsTs (fun b => w.heap.size ≤ b) w' (.slice a n cap) l ∧ RrAt r (after p σ) s w' ∧ Mv r w w' ∧ Got p σ l
structure St0 (r : Rdr) (w0 : World) (σ : Except Nat Nat) (s : Bool) (W : World) : Prop where
 rr : RrAt r σ s W
 mv : Mv r w0 W
 rb : r.b < w0.heap.size
theorem St0.on {r : Rdr} {w0 : World} {σ σ' : Except Nat Nat} {s : Bool} {W W' : World} (h : St0 r w0 σ s W) (hr : RrAt r σ' s W') (hm : Mv r W W') : St0 r w0 σ' s W' := ⟨hr, h.mv.trans hm, h.rb⟩
theorem Due.postL {r : Rdr} {P : PM (List Tree)} {Q : PM (List Tree)} {σ0 σ : Except Nat Nat} {s : Bool} {w W : World} {v : Value} {l : List Tree} (h : Due P σ0 Q σ) (hg : Got Q σ l) (hl : Nodes w.heap.size W v l) (hrr : RrAt r (after Q σ) s W) (hmv : Mv r w W) : RrPostL r P σ0 s w (.returned v) W := by
 obtain ⟨p, cap, rfl, hp, hb⟩ := hl.slice
 exact ⟨p, _, cap, l, rfl, hl.list, by rw [h.st]; exact hrr, hmv, h.gt _ hg⟩
def manyA {α : Type} (r : Rdr) (sg : ByteArray) (part : PM Tree) (K : List Tree → PM α) : Nat → List Tree → PM α
 | 0, _ => failM
 | f + 1, ts => bindM part fun t => bindM (tookM r sg) fun b => match b with
  | true => manyA r sg part K f (ts ++ [t])
  | false => K (ts ++ [t])
theorem manyA_eq {α : Type} (r : Rdr) (sg : ByteArray) (part : PM Tree) (K : List Tree → PM α) : ∀ f ts, manyA r sg part K f ts = bindM (manyM r sg part f ts) K
 | 0, ts => rfl
 | f + 1, ts => by
  funext i
  unfold manyA manyM bindM
  cases part i with
  | error k => rfl
  | ok z =>
   obtain ⟨t, j⟩ := z
   dsimp only
   cases tookM r sg j with
   | error k => rfl
   | ok y =>
    obtain ⟨b, m⟩ := y
    cases b
    ·rfl
    ·exact congrFun (manyA_eq r sg part K f (ts ++ [t])) m
def listR (r : Rdr) (E : PM Tree) : PM (List Tree) := bindM (needM r ⟨#[40]⟩) fun _ => bindM (tookM r ⟨#[41]⟩) fun b => match b with
 | true => pureM []
 | false => manyA r ⟨#[44]⟩ E (fun ts => bindM (needM r ⟨#[41]⟩) fun _ => pureM ts) (r.L.length + 1) []
/-- append of a node that was laid in a row of one -/
theorem wpList_pushRr {A : Nat → Prop} {B : Nat} {w : World} {ops : Array Oper} {rest : List Oper} {o : Oper} {act : Act} {Q : Exit → Act → World → Prop} (hgd : o.guard = none) (s x : Operand)
  (ho : o.op = .call { callee := .builtin .append, args := #[s, x], argTypes := #[36, 36] })
  {v : Value} {ts : List Tree} {g' : Nat} {t : Tree} (hs : act.eval s = v) (hx : act.eval x = .slice (some ⟨g', 0, none⟩) 1 1) (hN : Nodes B w v ts) (hB : B ≤ w.heap.size) (hlen : ts.length ≤ 100000)
  (hl : IsTs A w (.slice (some ⟨g', 0, none⟩) 1 1) [t]) (hA : ∀ b, A b → B ≤ b ∧ v.ownBlock ≠ some b)
  (hk : ∀ v' w', Nodes B w' v' (ts ++ [t]) → w.grownBy w' v.ownBlock → wpList Tryz.prog ops Q rest (act.put o.dst v') w') : wpList Tryz.prog ops Q (o :: rest) act w := by
 obtain ⟨i0, hi, hz0, hz1, hz2⟩ := info_parts infoTree
 obtain ⟨R, hown, hRl, hT⟩ := hN
 obtain ⟨p', n', cap', Rl, e, hsl, _, _, hll, hlT⟩ := hl
 cases e
 obtain ⟨hn1, _, _, hlies⟩ := hsl.lies
 obtain ⟨b, off, e, hcells⟩ := hlies (by omega)
 injection e with e
 injection e with e1 e2 _
 subst e1
 subst e2
 obtain ⟨q, rfl⟩ : ∃ q, Rl = [q] := by
  cases Rl with
  | nil => simp at hn1
  | cons q R => cases R with
   | nil => exact ⟨q, rfl⟩
   | cons _ _ => simp at hn1
 have cell : ∀ j u, (rawEnc.cells q)[j]? = some u → w.cell? ((⟨g', 0, none⟩ : Addr).add j) = some u := by
  intro j u hu
  rw [add_lit]
  refine hcells j u ?_
  rw [Enc.all_cons, Enc.all_nil, List.append_nil]
  exact hu
 refine wpList_append_own_at w hgd s x 36 ho B 40 i0 _ 4 56 Tryz.underlying36 hi hz0 hz1 hz2 rfl (by decide) v R.length (rawEnc.all R) hs hown ⟨g', 0, none⟩ 1 1 (rawEnc.cells q) hx rfl cell (rawEnc.one q) (by unfold maxLen; omega) (by omega) hB ?_
 intro v' w' g1 g2 _ g4
 have hown' : OwnL rawEnc 40 w' B v' (R ++ [q]) := by
  unfold OwnL
  rw [List.length_append, rawEnc.all_append, rawEnc.all_cons, rawEnc.all_nil, List.append_nil]
  exact g1
 have keep : ∀ {A : Nat → Prop} {qq : Raw} {tt : Tree}, IsT A w qq tt → (∀ b, A b → B ≤ b ∧ v.ownBlock ≠ some b) → IsT (fun b => B ≤ b ∧ v'.ownBlock ≠ some b) w' qq tt := by
  intro A qq tt h hA
  refine (h.old.same (same_grown g2) (fun a e q => (hA _ q.1).2 e)).mono (fun b hb => ⟨(hA b hb.1).1, fun e => ?_⟩)
  rcases g4 with g4 | g4
  ·rw [g4] at e; exact (hA b hb.1).2 e
  ·rw [g4] at e
   have : w.heap.size = b := by simpa using e
   have := hb.2
   omega
 refine hk v' w' ⟨R ++ [q], hown', by simp [hRl], fun j h1 h2 => ?_⟩ g2
 by_cases hj : j < R.length
 ·rw [List.getElem_append_left hj, List.getElem_append_left (by omega)]
  exact keep (hT j hj (by omega)) (fun b hb => hb)
 ·have hjl : j = ts.length := by simp at h1; omega
  subst hjl
  have e1 : (R ++ [q])[ts.length] = q := by rw [List.getElem_append_right (by omega)]; simp
  have e2 : (ts ++ [t])[ts.length] = t := by rw [List.getElem_append_right (by omega)]; simp
  rw [e1, e2]
  have := hlT 0 (by simp) (by simp)
  exact keep this hA
set_option maxRecDepth 100000 in
set_option maxHeartbeats 4000000 in
theorem rList_any (r : Rdr) (σ : Except Nat Nat) (s : Bool) (E : PM Tree) (lv : Int) (hlv : 1 ≤ lv ∧ lv ≤ 1000) (hup : Up E) (w : World) (h : RrAt r σ s w) (hE : EndAt r) (hK : Known r.L)
  (hX : ∀ σ1 w1, (∃ j, σ = .ok j) → RrAt r σ1 s w1 → Calls Tryz.prog 38 #[.pointer (some ⟨r.b, 0, none⟩), .int .i64 (lv + 1)] w1 (RrPost r E σ1 s w1)) :
  Calls Tryz.prog 150 #[.pointer (some ⟨r.b, 0, none⟩), .int .i64 lv] w (RrPostL r (listR r E) σ s w) := by
 have HT : Hid (St0 r w σ s w) := ⟨h, But.refl _ _, h.rb⟩
 have HE := Lib.hid hE
 have HK := Lib.hid hK
 have HX := Lib.hid hX
 have hfew := h.few
 obtain ⟨P, hP⟩ : ∃ P, (listR r E) = P := ⟨_, rfl⟩
 have hd : Due P σ (listR r E) σ := by rw [hP]; exact Due.refl _ _
 rw [hP]
 clear hP
 unfold listR at hd
 have HD := Lib.hid hd
 clear h hE hK hd hX
 go_enter Tryz.func150, Tryz.ntmps150
 go_wp2_with fail
 refine (need_r r _ s ⟨#[40]⟩ _ HT.out.rr HE.out HK.out (by decide) (known_of (by decide))).mono ?_
 rintro e w2 ⟨rfl, hr, hm⟩
 replace HD := Lib.hid (HD.out.step (Got.unit _ _))
 replace HT := Lib.hid (HT.out.on hr hm)
 clear hr hm
 go_wp2_with fail
 refine (take_r r _ s ⟨#[41]⟩ _ HT.out.rr HE.out HK.out (by decide) (known_of (by decide))).mono ?_
 rintro e w3 ⟨b, rfl, hr, hm, hg, hz⟩
 replace HD := Lib.hid (HD.out.step hg)
 replace HT := Lib.hid (HT.out.on hr hm)
 clear hr hm hg
 cases b
 ·generalize after (tookM r ⟨#[41]⟩) _ = σ4 at HT HD
  clear hz
  go_wp2_with fail
  go_loopw [5] (fun v wr => ∃ (f : Nat) (ts : List Tree) (σ9 : Except Nat Nat), Hid (Nodes w.heap.size wr v ts) ∧ Hid (St0 r w σ9 s wr) ∧ Hid (Due P σ (manyA r ⟨#[44]⟩ E (fun ts => bindM (needM r ⟨#[41]⟩) fun _ => pureM ts) f ts) σ9) ∧ ts.length + f = r.L.length + 1 ∧ ∀ i, σ9 = .ok i → r.L.length ≤ f + i) (fun _ wr => roomOf r wr)
  case atStart => exact ⟨r.L.length + 1, [], σ4, Nodes.none _ _, HT.out, HD.out, by simp, fun i e => by omega⟩
  case round =>
   clear HT HD
   obtain ⟨f, ts, σ9, HN, HT, HD, hf, HI0⟩ := hrel
   have HRM := Lib.hid (roomOf_eq HT.out.rr)
   go_wp2_with fail
   refine (ok_r r _ s _ HT.out.rr).mono ?_
   rintro e w4 ⟨b, rfl, rfl, hb⟩
   rcases hb with ⟨rfl, i9, rfl⟩ | ⟨rfl, k, rfl⟩
   ·have hfi := HI0 i9 rfl
    have hlt := HT.out.rr.lt
    obtain ⟨f', rfl⟩ : ∃ f', f = f' + 1 := ⟨f - 1, by omega⟩
    have hok := HD.out.er.ok
    have HRM2 : Hid (roomOf r w4 = r.L.length + 1 - i9) := HRM.out
    clear HRM HI0
    have hw : IntKind.i64.wrap (lv + 1) = lv + 1 := IntWalk.i64_in _ (by omega)
    obtain ⟨pv, cv, rfl, hpv, hbv⟩ := HN.out.slice
    clear hpv hbv
    go_wp2_with fail
    refine (HX.out _ _ hok HT.out.rr).mono ?_
    rintro e w5 ⟨q1, t1, rfl, ht, hr, hm, hg⟩
    have HI := Lib.hid ht
    have HSZ4 := Lib.hid HT.out.mv.size
    have HOW := Lib.hid HN.out.own
    have HSZ5 := Lib.hid hm.size
    replace HD := Lib.hid (HD.out.step hg)
    replace HT := Lib.hid (HT.out.on hr hm)
    replace HN := Lib.hid (HN.out.mv hm HT.out.rb)
    clear ht hr hm hg
    have hup9 : ∀ j, after E (.ok i9) = .ok j → i9 ≤ j := fun j e => hup.after e
    generalize after E (.ok i9) = σ7 at HT HD hup9
    unfold ndC
    have hbx := boxB w5 (.cells #[.int .i64 q1.kind, .string q1.text, .int .i64 q1.at_, .slice q1.p q1.n q1.cap] 40)
    have hrow : IsTs (fun b => w4.heap.size ≤ b) (w5.alloc (.cells #[.int .i64 q1.kind, .string q1.text, .int .i64 q1.at_, .slice q1.p q1.n q1.cap] 40)) (.slice (some ⟨w5.heap.size, 0, none⟩) 1 1) [t1] := IsTs.rowAt _ [q1] [t1] (heap_alloc_new w5 _) rfl rfl rfl (by decide) (by decide) HSZ5.out (fun i a b => match i, a, b with | 0, _, _ => HI.out.later hbx | i + 1, c, _ => absurd c (by simp))
    have hnb := HN.out.but0 (But.of_below hbx)
    go_wp2_with (at_builtin; go_must (refine wpList_pushRr (A := fun b => w4.heap.size ≤ b) (o := ⟨some 18, _, _, _, _, _⟩) rfl (.tmp 12) (.tmp 17) rfl rfl rfl hnb (by have := HSZ4.out; have := HSZ5.out; simp; omega) (by omega) hrow (fun b hb => ⟨by have := HSZ4.out; omega, fun e => by have := (HOW.out b e).2; omega⟩) ?_; intro v2 w6 hn2 hg2))
    have hT6 : St0 r w σ7 s w6 := ⟨(HT.out.rr.below hbx).grown hg2 (fun g e => by have := (HOW.out g e).1; have := HT.out.rb; omega), (HT.out.mv.trans (Mv.of_below hbx)).grown hg2 (fun g e => (HOW.out g e).1), HT.out.rb⟩
    replace HT := Lib.hid hT6
    replace HN := Lib.hid hn2
    clear hT6 hn2 hg2 hnb hrow hbx HI HOW
    refine (take_r r _ s ⟨#[44]⟩ _ HT.out.rr HE.out HK.out (by decide) (known_of (by decide))).mono ?_
    rintro e w7 ⟨b, rfl, hr, hm, hg, hz⟩
    have HTK := Lib.hid hg
    replace HD := Lib.hid (HD.out.step hg)
    replace HT := Lib.hid (HT.out.on hr hm)
    have HM7 := Lib.hid hm
    clear hr hm hg
    replace HN := Lib.hid (HN.out.mv HM7.out HT.out.rb)
    cases b
    ·go_wp2_with fail
     refine (need_r r _ s ⟨#[41]⟩ _ HT.out.rr HE.out HK.out (by decide) (known_of (by decide))).mono ?_
     rintro e w8 ⟨rfl, hr, hm⟩
     replace HD := Lib.hid (HD.out.step (Got.unit _ _))
     replace HT := Lib.hid (HT.out.on hr hm)
     have HM8 := Lib.hid hm
     clear hr hm
     replace HN := Lib.hid (HN.out.mv HM8.out HT.out.rb)
     go_wp2_with fail
     go_ret
     exact HD.out.postL (Got.pure _ _) HN.out (by rw [after_pure]; exact HT.out.rr) HT.out.mv
    ·obtain ⟨i9', hi9, ha9⟩ := took_true HTK.out hz
     subst hi9
     rw [ha9] at HT HD
     have hij := hup9 _ rfl
     have hrm := roomOf_eq HT.out.rr
     have hlt2 := HT.out.rr.lt
     go_wp2_with fail
     go_roundw
     case rel => exact ⟨f', _, _, HN.out, HT.out, HD.out, by rw [List.length_append]; simp only [List.length_cons, List.length_nil]; omega, fun i e => by cases e; omega⟩
     case measure => rw [hrm, HRM2.out]; simp only [room]; omega
   ·clear HRM HI0
    go_wp2_with fail
    refine (need_r r _ s ⟨#[41]⟩ _ HT.out.rr HE.out HK.out (by decide) (known_of (by decide))).mono ?_
    rintro e w8 ⟨rfl, hr, hm⟩
    have HD0 := HD
    replace HT := Lib.hid (HT.out.on hr hm)
    have HM8 := Lib.hid hm
    clear hr hm
    replace HN := Lib.hid (HN.out.mv HM8.out HT.out.rb)
    obtain ⟨pv, cv, rfl, hpv, hbv⟩ := HN.out.slice
    clear hpv hbv
    go_wp2_with fail
    go_ret
    exact HD0.out.postL (Got.err _ _ _) HN.out HT.out.rr HT.out.mv
 ·go_wp2_with fail
  go_ret
  exact HD.out.postL (Got.pure _ _) (Nodes.none _ _) (by rw [after_pure]; exact HT.out.rr) HT.out.mv
end Go.Proofs.YtgcaeimlmkkeoaaGreat
