/-
  CONTRACTS: (*reader).list: nodes with a mark between any two of them.
-/
import Derived.Test.YtheigpiffdabnaaGreatZA3
set_option linter.unusedSimpArgs false
set_option linter.unusedVariables false
namespace Go.Proofs.YtheigpiffdabnaaGreat
open Go Go.RowKit
abbrev PT := Nat → Except Nat (Tree × Nat)
/-- nodes with a mark between any two, with so many steps at most -/
def listP (r : Rdr) (sg : ByteArray) (part : PT) : Nat → Nat → Except Nat (List Tree × Nat)
 | 0, i => .error i
 | f + 1, i => match part i with
  | .error k => .error k
  | .ok (t, j) => if isMark r j sg then (match listP r sg part f (j + 1) with | .error k => .error k | .ok (ts, m) => .ok (t :: ts, m)) else .ok ([t], j)
/-- what follows the nodes that were read -/
def restP (r : Rdr) (sg : ByteArray) (part : PT) (f j : Nat) (ts : List Tree) : Except Nat (List Tree × Nat) :=
 if isMark r j sg then (match listP r sg part f (j + 1) with | .error k => .error k | .ok (us, m) => .ok (ts ++ us, m)) else .ok (ts, j)
theorem listP_err {r : Rdr} {sg : ByteArray} {part : PT} {f i k : Nat} (h : part i = .error k) : listP r sg part (f + 1) i = .error k := by
 unfold listP; rw [h]
theorem listP_ok {r : Rdr} {sg : ByteArray} {part : PT} {f i j : Nat} {t : Tree} (h : part i = .ok (t, j)) : listP r sg part (f + 1) i = restP r sg part f j [t] := by
 conv => lhs; unfold listP
 rw [h]
 unfold restP
 rfl
theorem restP_err {r : Rdr} {sg : ByteArray} {part : PT} {f j k : Nat} {ts : List Tree} (hm : isMark r j sg = true) (h : part (j + 1) = .error k) : restP r sg part (f + 1) j ts = .error k := by
 unfold restP; rw [if_pos hm, listP_err h]
theorem restP_ok {r : Rdr} {sg : ByteArray} {part : PT} {f j m : Nat} {t : Tree} {ts : List Tree} (hm : isMark r j sg = true) (h : part (j + 1) = .ok (t, m)) : restP r sg part (f + 1) j ts = restP r sg part f m (ts ++ [t]) := by
 unfold restP
 rw [if_pos hm, listP_ok h]
 unfold restP
 cases hq : isMark r m sg
 ·simp
 ·simp only [if_true]
  cases listP r sg part f (m + 1) with
  | error k => rfl
  | ok x => obtain ⟨us, n⟩ := x; simp
theorem restP_no {r : Rdr} {sg : ByteArray} {part : PT} {f j : Nat} {ts : List Tree} (hm : isMark r j sg = false) : restP r sg part f j ts = .ok (ts, j) := by
 unfold restP; rw [hm]; rfl
/-- the last token is the end alone -/
def EndAt (r : Rdr) : Prop := ∀ i, i < r.L.length → ((r.L.getD i tok0).kind = 1 ∨ (r.L.getD i tok0).text.size ≠ 0) → i + 1 < r.L.length
theorem EndAt.mark {r : Rdr} (h : EndAt r) {i : Nat} {sg : ByteArray} (hi : i < r.L.length) (hm : isMark r i sg = true) (hs : sg.size ≠ 0) : i + 1 < r.L.length := by
 refine h i hi (.inr ?_)
 have := mark_full hm hs
 intro e
 have e2 : (r.L.getD i tok0).text.toList = [] := by
  rw [ByteArray.toList_eq]
  apply List.eq_nil_of_length_eq_zero
  simpa using e
 rw [e2] at this
 cases this
/-- what a rule for a list leaves -/
def ListPost (r : Rdr) (x : Except Nat (List Tree × Nat)) (lv : Nat) (s : Bool) (w : World) (e : Ending) (w' : World) : Prop :=
 match x with
 | .ok (ts, j) => ∃ v, e = .returned v ∧ Nodes w.heap.size w' v ts ∧ RdAt r j lv s w' ∧ Mv r w w'
 | .error k => e = stopAt k ∧ Mv r w w'
/-- at each round -/
structure LInv (r : Rdr) (sg : ByteArray) (part : PT) (X : Except Nat (List Tree × Nat)) (lv : Nat) (s : Bool) (w0 : World) (j f : Nat) (ts : List Tree) (v : Value) (w : World) : Prop where
 nodes : Nodes w0.heap.size w v ts
 rd : RdAt r j lv s w
 mv : Mv r w0 w
 fuel : r.L.length ≤ f + j + 1
 few : ts.length ≤ j + 1
 eq : X = restP r sg part f j ts
/-- the token that comes next -/
def nextOf (r : Rdr) (w : World) : Nat := match w.cell? ⟨r.b, 1, none⟩ with | some (.int _ k) => k.toNat | _ => 0
theorem RdAt.nextOf {r : Rdr} {i lv : Nat} {s : Bool} {w : World} (h : RdAt r i lv s w) : nextOf r w = i := by
 unfold Proofs.YtheigpiffdabnaaGreat.nextOf
 rw [h.c.2.1]
 exact Int.toNat_natCast i
theorem Nodes.own_lt {B : Nat} {w : World} {v : Value} {ts : List Tree} (h : Nodes B w v ts) : ∀ g, v.ownBlock = some g → g < w.heap.size := by
 intro g e
 obtain ⟨R, ⟨_, ⟨hv, _⟩ | ⟨g', cap, cur, hv, hg, hh, _⟩⟩, _⟩ := h
 ·rw [hv] at e; simp [Value.ownBlock] at e
 ·rw [hv] at e
  simp [Value.ownBlock] at e
  subst e
  exact lt_heap hh
set_option maxRecDepth 100000 in
set_option maxHeartbeats 2000000 in
theorem list_any (r : Rdr) (i lv : Nat) (s : Bool) (sg : ByteArray) (F : FuncId) (part : PT) (w : World) (h : RdAt r i lv s w) (hE : EndAt r) (hs : sg.size ≠ 0) (hF : ∀ args w, (callFunc F args).run Tryz.prog w = .ok (.enter F args) w)
  (hmono : ∀ a t b, part a = .ok (t, b) → a ≤ b) (HP : ∀ a w1, RdAt r a lv s w1 → Calls Tryz.prog F #[.pointer (some ⟨r.b, 0, none⟩)] w1 (RulePost r (part a) lv s w1)) :
  Calls Tryz.prog 82 #[.pointer (some ⟨r.b, 0, none⟩), .string sg, .func (.func F) #[] #[]] w (ListPost r (listP r sg part (r.L.length + 1) i) lv s w) := by
 have HR := Lib.hid h
 have HPP := Lib.hid HP
 have HMO := Lib.hid hmono
 have HEE := Lib.hid hE
 have HRB : Hid (r.b < w.heap.size) := lt_heap h.cells
 clear h HP hmono hE
 generalize hX0 : listP r sg part (r.L.length + 1) i = X
 have HX0 := Lib.hid hX0
 clear hX0
 go_enter Tryz.func82, Tryz.ntmps82
 go_wp2_with fail
 refine (HPP.out i w HR.out).mono ?_
 intro e w1 hp
 match hx : part i, hp with
 | .error k, hp =>
  obtain ⟨rfl, hm⟩ := hp
  have HM := Lib.hid hm
  have hX := HX0.out
  rw [listP_err hx] at hX
  clear HX0
  subst hX
  unfold stopAt
  go_wp2_with fail
  exact ⟨rfl, rfl, HM.out⟩
 | .ok (t, j), hp =>
  obtain ⟨q, rfl, ht, hr1, hm1⟩ := hp
  have hX := HX0.out
  rw [listP_ok hx] at hX
  clear HX0
  have HI : Hid (LInv r sg part X lv s w j r.L.length [t] (.slice (some ⟨w1.heap.size, 0, none⟩) 1 1) (w1.alloc (.cells (ndC q) 37))) :=
   ⟨Nodes.first ht hm1.size, hr1.below (boxB w1 _), hm1.trans (But.alloc _ _), by omega, by simp, hX.symm⟩
  obtain ⟨qk, qt, qa, qp, qn, qc⟩ := q
  unfold ndC at HI ⊢
  clear ht hr1 hm1 hp hX hx HR
  go_wp2_with fail
  go_loopw [7] (fun v wr => ∃ (j f : Nat) (ts : List Tree), j < r.L.length ∧ Hid (LInv r sg part X lv s w j f ts v wr)) (fun v wr => r.L.length - nextOf r wr)
  case atStart => exact ⟨j, r.L.length, [t], HI.out.rd.lt, HI.out⟩
  case round =>
   obtain ⟨j, f, ts, hj, HL⟩ := hrel
   have hnx : nextOf r wr = j := HL.out.rd.nextOf
   obtain ⟨p, cap, hve, hpc, hpb⟩ := HL.out.nodes.slice
   subst hve
   clear hpc hpb HI
   by_cases hm : isMark r j sg = true
   ·have hj1 : j + 1 < r.L.length := HEE.out.mark hj hm hs
    obtain ⟨f', rfl⟩ : ∃ f', f = f' + 1 := ⟨f - 1, by have := HL.out.fuel; omega⟩
    have HX := Lib.hid hnx
    have HMK := Lib.hid hm
    clear hnx hm
    go_wp2_with fail
    refine (took_yes r j lv s sg wr HL.out.rd HMK.out hs hj1).mono ?_
    rintro e w2 ⟨rfl, hr2, hm2⟩
    have HN2 := Lib.hid (HL.out.nodes.mv hm2 HRB.out)
    have HR2 := Lib.hid hr2
    have HM2 := Lib.hid (HL.out.mv.trans hm2)
    clear hr2 hm2
    go_wp2_with fail
    refine (HPP.out (j + 1) w2 HR2.out).mono ?_
    intro e w3 hp
    match hx : part (j + 1), hp with
    | .error k, hp =>
     obtain ⟨rfl, hm3⟩ := hp
     have HM3 := Lib.hid (HM2.out.trans hm3)
     have hXe := HL.out.eq
     rw [restP_err HMK.out hx] at hXe
     subst hXe
     unfold stopAt
     clear hp hm3
     go_wp2_with fail
     exact ⟨rfl, rfl, HM3.out⟩
    | .ok (t2, m), hp =>
     obtain ⟨q, rfl, ht, hr3, hm3⟩ := hp
     have HN3 := Lib.hid (HN2.out.mv hm3 HRB.out)
     have HM3 := Lib.hid (HM2.out.trans hm3)
     have HR3 := Lib.hid hr3
     have HT3 : Hid (IsT (fun b => w.heap.size ≤ b ∧ (Value.slice p ts.length cap).ownBlock ≠ some b) w3 q t2) := ht.mono (fun b hb => ⟨Nat.le_trans HM2.out.size hb, fun e => by have := HN2.out.own_lt b e; omega⟩)
     have HEQ : Hid (X = restP r sg part f' m (ts ++ [t2])) := by show _ = _; rw [HL.out.eq, restP_ok HMK.out hx]
     have hjm := HMO.out _ _ _ hx
     have hfew := HL.out.few
     have hr20 := HL.out.rd.few
     obtain ⟨qk, qt, qa, qp, qn, qc⟩ := q
     unfold ndC
     clear ht hr3 hm3 hp
     go_wp2_with (at_builtin; go_must (refine wpList_pushN (o := ⟨some 20, _, _, _, _, _⟩) rfl (.tmp 15) (.tmp 19) rfl HN3.out HT3.out HR3.out HM3.out HRB.out (by omega) rfl rfl rfl ?_; intro v' w' hn4 hr4 hm4; have HN4 := Lib.hid hn4; have HR4 := Lib.hid hr4; have HM4 := Lib.hid hm4; clear hn4 hr4 hm4))
     go_roundw
     case rel => exact ⟨m, f', ts ++ [t2], HR4.out.lt, ⟨HN4.out, HR4.out, HM4.out, by have := HL.out.fuel; omega, by simp; omega, HEQ.out⟩⟩
     case measure => rw [HR4.out.nextOf, HX.out]; omega
   ·have hm' : isMark r j sg = false := by simpa using hm
    have hXe := HL.out.eq
    rw [restP_no hm'] at hXe
    subst hXe
    clear hm hnx
    go_wp2_with fail
    refine (took_no r j lv s sg wr HL.out.rd hm').mono ?_
    rintro e w2 ⟨rfl, hb⟩
    have HN2 := Lib.hid (HL.out.nodes.mv (Mv.of_below (r := r) hb) HRB.out)
    have HR2 := Lib.hid (HL.out.rd.below hb)
    have HM2 := Lib.hid (HL.out.mv.trans (Mv.of_below (r := r) hb))
    clear hb
    go_wp2_with fail
    go_ret
    exact ⟨_, rfl, HN2.out, HR2.out, HM2.out⟩
end Go.Proofs.YtheigpiffdabnaaGreat
namespace Go.Proofs.YtheigpiffdabnaaGreat
open Go Go.RowKit
/-- a node that is stored into a result's cell, which was made at the beginning -/
theorem res_world (r : Rdr) (j lv : Nat) (s : Bool) (w W : World) (q : Raw) (t : Tree) (hr : r.b < w.heap.size) (hm : Mv r w W) (hn : W.heap[w.heap.size]? = some (.cells (ndC ⟨0, ⟨#[]⟩, 0, none, 0, 0⟩) 37 (0, 0)))
  (ht : IsT (fun b => w.heap.size < b) W q t) (hd : RdAt r j lv s W) :
  (((((W.setCell ⟨w.heap.size, 0, none⟩ (.int .i64 q.kind)).setCell ⟨w.heap.size, 1, none⟩ (.string q.text)).setCell ⟨w.heap.size, 2, none⟩ (.int .i64 q.at_)).setCell ⟨w.heap.size, 3, none⟩ (.slice q.p q.n q.cap)).heap[w.heap.size]? = some (.cells (ndC q) 37 (0, 0))) ∧
  IsT (fun b => w.heap.size ≤ b) ((((W.setCell ⟨w.heap.size, 0, none⟩ (.int .i64 q.kind)).setCell ⟨w.heap.size, 1, none⟩ (.string q.text)).setCell ⟨w.heap.size, 2, none⟩ (.int .i64 q.at_)).setCell ⟨w.heap.size, 3, none⟩ (.slice q.p q.n q.cap)) q t ∧
  RdAt r j lv s ((((W.setCell ⟨w.heap.size, 0, none⟩ (.int .i64 q.kind)).setCell ⟨w.heap.size, 1, none⟩ (.string q.text)).setCell ⟨w.heap.size, 2, none⟩ (.int .i64 q.at_)).setCell ⟨w.heap.size, 3, none⟩ (.slice q.p q.n q.cap)) ∧
  Mv r w ((((W.setCell ⟨w.heap.size, 0, none⟩ (.int .i64 q.kind)).setCell ⟨w.heap.size, 1, none⟩ (.string q.text)).setCell ⟨w.heap.size, 2, none⟩ (.int .i64 q.at_)).setCell ⟨w.heap.size, 3, none⟩ (.slice q.p q.n q.cap)) := by
 have key : ∀ (W : World) (k : Nat) (v : Value), But (fun a => a.block = w.heap.size) W (W.setCell ⟨w.heap.size, k, none⟩ v) := fun W k v => But.setCell W _ v rfl
 have bb := (((key W 0 (.int .i64 q.kind)).trans (key _ 1 (.string q.text))).trans (key _ 2 (.int .i64 q.at_))).trans (key _ 3 (.slice q.p q.n q.cap))
 have mm : Mv r w ((((W.setCell ⟨w.heap.size, 0, none⟩ (.int .i64 q.kind)).setCell ⟨w.heap.size, 1, none⟩ (.string q.text)).setCell ⟨w.heap.size, 2, none⟩ (.int .i64 q.at_)).setCell ⟨w.heap.size, 3, none⟩ (.slice q.p q.n q.cap)) :=
  But.setCell_new (But.setCell_new (But.setCell_new (But.setCell_new hm ⟨w.heap.size, 0, none⟩ _ (Nat.le_refl _)) ⟨w.heap.size, 1, none⟩ _ (Nat.le_refl _)) ⟨w.heap.size, 2, none⟩ _ (Nat.le_refl _)) ⟨w.heap.size, 3, none⟩ _ (Nat.le_refl _)
 refine ⟨heap_setCell_same _ _ _ _ _ _ (heap_setCell_same _ _ _ _ _ _ (heap_setCell_same _ _ _ _ _ _ (heap_setCell_same _ _ _ _ _ _ hn))), (ht.but bb (fun a e q => by rw [e] at q; omega)).mono (fun b hb => Nat.le_of_lt hb), ⟨?_, SlIs.but hd.toks bb (fun b o i e q => ?_), hd.away, hd.lt, hd.few, hd.deep⟩, mm⟩
 ·rw [But.block bb r.b (lt_heap hd.cells) (fun a ha e => by rw [ha] at e; omega)]
  exact hd.cells
 ·have h1 := hd.away b o e
  have h2 : b = w.heap.size := q
  omega
/-- the plain rule -/
def nameP (r : Rdr) (i : Nat) : Except Nat (Tree × Nat) := if (r.L.getD i tok0).kind = 1 then .ok (.mk 22 (r.L.getD i tok0).text (r.L.getD i tok0).at_ [], i + 1) else .error i
/-- a result's cell that stands, in a later world -/
structure ResAt (w W : World) : Prop where
 z : W.heap[w.heap.size]? = some (.cells (ndC ⟨0, ⟨#[]⟩, 0, none, 0, 0⟩) 37 (0, 0))
theorem ResAt.cells {w W : World} (h : ResAt w W) : W.cell? ⟨w.heap.size, 0, none⟩ = some (.int .i64 0) ∧ W.cell? ⟨w.heap.size, 1, none⟩ = some (.string ⟨#[]⟩) ∧ W.cell? ⟨w.heap.size, 2, none⟩ = some (.int .i64 0) ∧ W.cell? ⟨w.heap.size, 3, none⟩ = some (.slice none 0 0) ∧ ∀ j, W.frozen? ⟨w.heap.size, j, none⟩ = false :=
 ⟨by rw [Lib.cell_of_heap h.z]; rfl, by rw [Lib.cell_of_heap h.z]; rfl, by rw [Lib.cell_of_heap h.z]; rfl, by rw [Lib.cell_of_heap h.z]; rfl, fun j => Lib.frozen_of_heap h.z j⟩
theorem ResAt.mv {r : Rdr} {w W W' : World} (h : ResAt w W) (hm : Mv r W W') (hr : r.b < w.heap.size) : ResAt w W' := ⟨by rw [hm.block (lt_heap h.z) (by omega)]; exact h.z⟩
theorem ResAt.start (w : World) : ResAt w (w.alloc (.cells #[.int .i64 0, .string ⟨#[]⟩, .int .i64 0, .slice none 0 0] 37)) := ⟨heap_alloc_new w _⟩
set_option maxRecDepth 100000 in
set_option maxHeartbeats 1000000 in
theorem nameNode_any (r : Rdr) (i lv : Nat) (s : Bool) (w : World) (h : RdAt r i lv s w) (hE : EndAt r) :
  Calls Tryz.prog 71 #[.pointer (some ⟨r.b, 0, none⟩)] w (RulePost r (nameP r i) lv s w) := by
 have HRB : Hid (r.b < w.heap.size) := lt_heap h.cells
 have HR1 := Lib.hid (h.below (boxB w (.cells #[.int .i64 0, .string ⟨#[]⟩, .int .i64 0, .slice none 0 0] 37)))
 have HM1 := Lib.hid (Mv.of_below (r := r) (boxB w (.cells #[.int .i64 0, .string ⟨#[]⟩, .int .i64 0, .slice none 0 0] 37)))
 have HS1 := Lib.hid (ResAt.start w)
 generalize hX0 : nameP r i = X
 have HX0 := Lib.hid hX0
 have HE := Lib.hid hE
 clear hX0 h hE
 go_enter Tryz.func71, Tryz.ntmps71
 go_wp2_with fail
 generalize w.alloc (.cells #[.int .i64 0, .string ⟨#[]⟩, .int .i64 0, .slice none 0 0] 37) = w1 at *
 refine (here_any r i lv s w1 HR1.out).mono ?_
 rintro e w2 ⟨rfl, hb⟩
 have HR2 := Lib.hid (HR1.out.below hb)
 have HM2 := Lib.hid (HM1.out.trans (Mv.of_below (r := r) hb))
 have HS2 := Lib.hid (HS1.out.mv (Mv.of_below (r := r) hb) HRB.out)
 clear hb HR1 HM1 HS1
 by_cases hk : (r.L.getD i tok0).kind = 1
 ·have hX := HX0.out
  unfold nameP at hX
  rw [if_pos hk] at hX
  clear HX0
  subst hX
  have hi1 := HE.out i HR2.out.lt (.inl hk)
  have HK := Lib.hid hk
  clear hk
  go_wp2_with fail
  refine (name_yes r i lv s w2 HR2.out HK.out hi1).mono ?_
  rintro e w3 ⟨rfl, hr3, hm3⟩
  have HR3 := Lib.hid hr3
  have HM3 := Lib.hid (HM2.out.trans hm3)
  have HS3 := Lib.hid (HS2.out.mv hm3 HRB.out)
  clear hr3 hm3
  go_wp2_with fail
  refine (node_any 22 _ _ none 0 0 w3).mono ?_
  rintro e w4 ⟨rfl, hb⟩
  have HR4 := Lib.hid (HR3.out.below hb)
  have HM4 := Lib.hid (HM3.out.trans (Mv.of_below (r := r) hb))
  have HS4 := Lib.hid (HS3.out.mv (Mv.of_below (r := r) hb) HRB.out)
  have HW := Lib.hid (res_world r (i + 1) lv s w w4 ⟨22, (r.L.getD i tok0).text, (r.L.getD i tok0).at_, none, 0, 0⟩ (.mk 22 (r.L.getD i tok0).text (r.L.getD i tok0).at_ []) HRB.out HM4.out HS4.out.z (IsT.leaf _ _ _ _ _) HR4.out)
  clear hb
  obtain ⟨d0, d1, d2, d3, f0⟩ := HS4.out.cells
  unfold ndC
  go_wp2_with fail
  obtain ⟨hcell, hist, hrd, hmv⟩ := HW.out
  simp only [List.getD_eq_getElem?_getD] at hcell hist hrd hmv ⊢
  exact bodyPost_ret (results_cellT rfl _ _ _ ⟨w.heap.size, 0, none⟩ _ rfl (load_node _ _ ⟨22, (r.L[i]?.getD tok0).text, (r.L[i]?.getD tok0).at_, none, 0, 0⟩ hcell)) rfl ⟨_, rfl, hist, hrd, hmv⟩
 ·have hX := HX0.out
  unfold nameP at hX
  rw [if_neg hk] at hX
  clear HX0
  subst hX
  have HK := Lib.hid hk
  clear hk
  go_wp2_with fail
  refine (name_no r i lv s w2 HR2.out HK.out).mono ?_
  rintro e w3 ⟨rfl, hb⟩
  have HM3 := Lib.hid (HM2.out.trans (Mv.of_below (r := r) hb))
  clear hb
  unfold stopAt
  go_wp2_with fail
  exact ⟨rfl, rfl, HM3.out⟩
end Go.Proofs.YtheigpiffdabnaaGreat
namespace Go.Proofs.YtheigpiffdabnaaGreat
open Go Go.RowKit
def W3 : List ByteArray := [⟨#[105, 110, 116]⟩, ⟨#[98, 111, 111, 108]⟩, ⟨#[117, 110, 105, 116]⟩]
def selfB : ByteArray := ⟨#[83, 101, 108, 102]⟩
/-- a type that begins with a name -/
def typTail (r : Rdr) (sub : PT) (i : Nat) : Except Nat (Tree × Nat) :=
 if (r.L.getD i tok0).kind = 1 then
  (if isMark r (i + 1) ⟨#[60]⟩ = true then
   (match listP r ⟨#[44]⟩ sub (r.L.length + 1) (i + 2) with
    | .error k => .error k
    | .ok (ts, j) => if isMark r j ⟨#[62]⟩ = true then .ok (.mk 15 (r.L.getD i tok0).text (r.L.getD i tok0).at_ ts, j + 1) else .error j)
   else .ok (.mk 15 (r.L.getD i tok0).text (r.L.getD i tok0).at_ [], i + 1))
 else .error i
/-- a type, of a rule for those that it is applied to -/
def typAt (r : Rdr) (s : Bool) (sub : PT) (i : Nat) : Except Nat (Tree × Nat) :=
 if hit (r.L.getD i tok0).text W3 = true then .ok (.mk 15 (r.L.getD i tok0).text (r.L.getD i tok0).at_ [], i + 1)
 else if s = true ∧ isMark r i selfB = true then .ok (.mk 15 selfB (r.L.getD i tok0).at_ [], i + 1)
 else typTail r sub i
theorem W3_full : ∀ v ∈ W3, v.size ≠ 0 := by decide
theorem hit_full {t : ByteArray} {V : List ByteArray} (h : hit t V = true) (hV : ∀ v ∈ V, v.size ≠ 0) : t.size ≠ 0 ∧ t.toList.isEmpty = false := by
 obtain ⟨v, hv, e⟩ := List.any_eq_true.1 h
 rw [beq_iff_eq] at e
 have h0 := hV v hv
 have e2 : t.data.toList = v.data.toList := by rw [← ByteArray.toList_eq, ← ByteArray.toList_eq]; exact e
 have e3 : t.size = v.size := by have := congrArg List.length e2; simpa using this
 refine ⟨by omega, ?_⟩
 rw [ByteArray.toList_eq]
 cases hd : t.data.toList with
 | nil => have := congrArg List.length hd; simp at this; rw [this] at e3; exact absurd (by rw [← e3]; rfl) h0
 | cons a l => rfl
theorem texts_three (w : World) (t : TypeId) : TextsAt (w.alloc (.cells #[.string ⟨#[105, 110, 116]⟩, .string ⟨#[98, 111, 111, 108]⟩, .string ⟨#[117, 110, 105, 116]⟩] t)) w.heap.size 0 W3 := by
 intro j hj
 rw [Lib.cell_of_heap (heap_alloc_new w _)]
 have h3 : j < 3 := hj
 match j, h3 with
 | 0, _ => rfl
 | 1, _ => rfl
 | 2, _ => rfl
set_option maxRecDepth 100000 in
set_option maxHeartbeats 2000000 in
theorem typeOf_any (r : Rdr) (i lv : Nat) (s : Bool) (sub : PT) (w : World) (h : RdAt r i lv s w) (hE : EndAt r) (hmono : ∀ a t b, sub a = .ok (t, b) → a ≤ b)
  (HB : ∀ a w1, RdAt r a lv s w1 → Calls Tryz.prog 60 #[.pointer (some ⟨r.b, 0, none⟩)] w1 (RulePost r (sub a) lv s w1)) :
  Calls Tryz.prog 76 #[.pointer (some ⟨r.b, 0, none⟩)] w (RulePost r (typAt r s sub i) lv s w) := by
 have HRB : Hid (r.b < w.heap.size) := lt_heap h.cells
 have HR1 := Lib.hid (h.below (boxB w (.cells #[.int .i64 0, .string ⟨#[]⟩, .int .i64 0, .slice none 0 0] 37)))
 have HM1 := Lib.hid (Mv.of_below (r := r) (boxB w (.cells #[.int .i64 0, .string ⟨#[]⟩, .int .i64 0, .slice none 0 0] 37)))
 have HS1 := Lib.hid (ResAt.start w)
 generalize hX0 : typAt r s sub i = X
 have HX0 := Lib.hid hX0
 have HE := Lib.hid hE
 have HSUB := Lib.hid HB
 have HMO := Lib.hid hmono
 clear hX0 h hE HB hmono
 go_enter Tryz.func76, Tryz.ntmps76
 go_wp2_with fail
 generalize w.alloc (.cells #[.int .i64 0, .string ⟨#[]⟩, .int .i64 0, .slice none 0 0] 37) = w1 at *
 refine (here_any r i lv s w1 HR1.out).mono ?_
 rintro e w2 ⟨rfl, hb⟩
 have HR2 := Lib.hid (HR1.out.below hb)
 have HM2 := Lib.hid (HM1.out.trans (Mv.of_below (r := r) hb))
 have HS2 := Lib.hid (HS1.out.mv (Mv.of_below (r := r) hb) HRB.out)
 clear hb HR1 HM1 HS1
 go_wp2_with fail
 have hb3 := boxB w2 (.cells #[.string ⟨#[105, 110, 116]⟩, .string ⟨#[98, 111, 111, 108]⟩, .string ⟨#[117, 110, 105, 116]⟩] 9)
 have HR3 := Lib.hid (HR2.out.below hb3)
 have HM3 := Lib.hid (HM2.out.trans (Mv.of_below (r := r) hb3))
 have HS3 := Lib.hid (HS2.out.mv (Mv.of_below (r := r) hb3) HRB.out)
 have HT3 := Lib.hid (texts_three w2 9)
 clear hb3 HR2 HM2 HS2
 by_cases hh : hit (r.L.getD i tok0).text W3 = true
 ·have hX := HX0.out
  unfold typAt at hX
  rw [if_pos hh] at hX
  clear HX0
  subst hX
  have hfull := hit_full hh W3_full
  have hi1 := HE.out i HR3.out.lt (.inr hfull.1)
  have HK := Lib.hid hh
  have HF := Lib.hid hfull.2
  clear hh hfull
  refine (sign_yes r i lv s W3 w2.heap.size 0 3 3 _ HR3.out rfl (by omega) HT3.out HK.out hi1).mono ?_
  rintro e w4 ⟨rfl, hr4, hm4⟩
  have HR4 := Lib.hid hr4
  have HM4 := Lib.hid (HM3.out.trans hm4)
  have HS4 := Lib.hid (HS3.out.mv hm4 HRB.out)
  have hne : (r.L[i]?.getD tok0).text.toList.isEmpty = false := by rw [← List.getD_eq_getElem?_getD]; exact HF.out
  clear hr4 hm4
  go_wp2_with fail
  refine (node_any 15 _ _ none 0 0 w4).mono ?_
  rintro e w5 ⟨rfl, hb⟩
  have HR5 := Lib.hid (HR4.out.below hb)
  have HM5 := Lib.hid (HM4.out.trans (Mv.of_below (r := r) hb))
  have HS5 := Lib.hid (HS4.out.mv (Mv.of_below (r := r) hb) HRB.out)
  have HW := Lib.hid (res_world r (i + 1) lv s w w5 ⟨15, (r.L.getD i tok0).text, (r.L.getD i tok0).at_, none, 0, 0⟩ (.mk 15 (r.L.getD i tok0).text (r.L.getD i tok0).at_ []) HRB.out HM5.out HS5.out.z (IsT.leaf _ _ _ _ _) HR5.out)
  clear hb
  obtain ⟨d0, d1, d2, d3, f0⟩ := HS5.out.cells
  unfold ndC
  go_wp2_with fail
  obtain ⟨hcell, hist, hrd, hmv⟩ := HW.out
  simp only [List.getD_eq_getElem?_getD] at hcell hist hrd hmv ⊢
  exact bodyPost_ret (results_cellT rfl _ _ _ ⟨w.heap.size, 0, none⟩ _ rfl (load_node _ _ ⟨15, (r.L[i]?.getD tok0).text, (r.L[i]?.getD tok0).at_, none, 0, 0⟩ hcell)) rfl ⟨_, rfl, hist, hrd, hmv⟩
 ·have hh' : hit (r.L.getD i tok0).text W3 = false := by simpa using hh
  refine (sign_no r i lv s W3 w2.heap.size 0 3 3 _ HR3.out rfl (by omega) HT3.out hh').mono ?_
  rintro e w4 ⟨rfl, hb⟩
  have HR4 := Lib.hid (HR3.out.below hb)
  have HM4 := Lib.hid (HM3.out.trans (Mv.of_below (r := r) hb))
  have HS4 := Lib.hid (HS3.out.mv (Mv.of_below (r := r) hb) HRB.out)
  have HH := Lib.hid hh
  clear hb hh hh'
  have hsel : selfB.size ≠ 0 := by decide
  have h3 : (s = true ∧ isMark r i selfB = true) ∨ (s = true ∧ isMark r i selfB = false) ∨ s = false := by
   cases s
   ·exact .inr (.inr rfl)
   ·cases isMark r i selfB
    ·exact .inr (.inl ⟨rfl, rfl⟩)
    ·exact .inl ⟨rfl, rfl⟩
  rcases h3 with ⟨rfl, hm⟩ | ⟨rfl, hm⟩ | rfl
  -- Self
  ·have hX := HX0.out
   unfold typAt at hX
   rw [if_neg HH.out, if_pos ⟨rfl, hm⟩] at hX
   clear HX0
   subst hX
   have hi1 := HE.out.mark HR4.out.lt hm hsel
   have HMK := Lib.hid hm
   obtain ⟨c0, c1, c2, c3, fz⟩ := HR4.out.c
   clear hm
   go_wp2_with fail
   refine (took_yes r i lv true selfB w4 HR4.out HMK.out hsel hi1).mono ?_
   rintro e w5 ⟨rfl, hr5, hm5⟩
   have HR5 := Lib.hid hr5
   have HM5 := Lib.hid (HM4.out.trans hm5)
   have HS5 := Lib.hid (HS4.out.mv hm5 HRB.out)
   clear hr5 hm5 c0 c1 c2 c3 fz
   go_wp2_with fail
   refine (node_any 15 _ _ none 0 0 w5).mono ?_
   rintro e w6 ⟨rfl, hb⟩
   have HR6 := Lib.hid (HR5.out.below hb)
   have HM6 := Lib.hid (HM5.out.trans (Mv.of_below (r := r) hb))
   have HS6 := Lib.hid (HS5.out.mv (Mv.of_below (r := r) hb) HRB.out)
   have HW := Lib.hid (res_world r (i + 1) lv true w w6 ⟨15, selfB, (r.L.getD i tok0).at_, none, 0, 0⟩ (.mk 15 selfB (r.L.getD i tok0).at_ []) HRB.out HM6.out HS6.out.z (IsT.leaf _ _ _ _ _) HR6.out)
   clear hb
   obtain ⟨d0, d1, d2, d3, f0⟩ := HS6.out.cells
   unfold ndC
   go_wp2_with fail
   obtain ⟨hcell, hist, hrd, hmv⟩ := HW.out
   simp only [List.getD_eq_getElem?_getD] at hcell hist hrd hmv ⊢
   exact bodyPost_ret (results_cellT rfl _ _ _ ⟨w.heap.size, 0, none⟩ _ rfl (load_node _ _ ⟨15, selfB, (r.L[i]?.getD tok0).at_, none, 0, 0⟩ hcell)) rfl ⟨_, rfl, hist, hrd, hmv⟩
  -- no Self
  focus
   have HX1 : Hid (typTail r sub i = X) := by have hX := HX0.out; unfold typAt at hX; rw [if_neg HH.out, if_neg (fun q => by rw [hm] at q; exact absurd q.2 (by simp))] at hX; exact hX
   obtain ⟨c0, c1, c2, c3, fz⟩ := HR4.out.c
   go_wp2_with fail
   refine (took_no r i lv true selfB w4 HR4.out hm).mono ?_
   rintro e w5 ⟨rfl, hb⟩
   have HR5 := Lib.hid (HR4.out.below hb)
   have HM5 := Lib.hid (HM4.out.trans (Mv.of_below (r := r) hb))
   have HS5 := Lib.hid (HS4.out.mv (Mv.of_below (r := r) hb) HRB.out)
   clear hb hm c0 c1 c2 c3 fz HR4 HM4 HS4 HR3 HM3 HS3 HT3
   go_wp2_with fail
  rotate_left
  focus
   have HX1 : Hid (typTail r sub i = X) := by have hX := HX0.out; unfold typAt at hX; rw [if_neg HH.out, if_neg (fun q => absurd q.1 (by simp))] at hX; exact hX
   obtain ⟨c0, c1, c2, c3, fz⟩ := HR4.out.c
   go_wp2_with fail
   have HR5 := HR4
   have HM5 := HM4
   have HS5 := HS4
   clear c0 c1 c2 c3 fz HR4 HM4 HS4 HR3 HM3 HS3 HT3
   generalize w4 = w5 at *
  all_goals
   by_cases hk : (r.L.getD i tok0).kind = 1
   ·have hi1 := HE.out i HR5.out.lt (.inl hk)
    have HK := Lib.hid hk
    clear hk
    refine (name_yes r i lv _ w5 HR5.out HK.out hi1).mono ?_
    rintro e w6 ⟨rfl, hr6, hm6⟩
    have HR6 := Lib.hid hr6
    have HM6 := Lib.hid (HM5.out.trans hm6)
    have HS6 := Lib.hid (HS5.out.mv hm6 HRB.out)
    clear hr6 hm6 HR5 HM5 HS5
    go_wp2_with fail
    by_cases hm : isMark r (i + 1) ⟨#[60]⟩ = true
    ·have hi2 := HE.out.mark HR6.out.lt hm (by decide)
     have HMK := Lib.hid hm
     clear hm
     refine (took_yes r (i + 1) lv _ ⟨#[60]⟩ w6 HR6.out HMK.out (by decide) hi2).mono ?_
     rintro e w7 ⟨rfl, hr7, hm7⟩
     have HR7 := Lib.hid hr7
     have HM7 := Lib.hid (HM6.out.trans hm7)
     have HS7 := Lib.hid (HS6.out.mv hm7 HRB.out)
     clear hr7 hm7 HR6 HM6 HS6
     go_wp2_with fail
     refine (list_any r (i + 2) lv _ ⟨#[44]⟩ 60 sub w7 HR7.out HE.out (by decide) (fun args w => by kernel_rfl) HMO.out HSUB.out).mono ?_
     intro e w8 hp
     match hl : listP r ⟨#[44]⟩ sub (r.L.length + 1) (i + 2), hp with
     | .error k, hp =>
      have hX := HX1.out
      unfold typTail at hX
      rw [if_pos HK.out, if_pos HMK.out, hl] at hX
      clear HX0 HX1
      subst hX
      obtain ⟨rfl, hm8⟩ := hp
      have HM8 := Lib.hid (HM7.out.trans hm8)
      unfold stopAt
      go_wp2_with fail
      exact ⟨rfl, rfl, HM8.out⟩
     | .ok (ts, j), hp =>
      obtain ⟨v, rfl, hn8, hr8, hm8⟩ := hp
      obtain ⟨p8, c8, hve, hpc, -⟩ := hn8.slice
      have hts := (hn8.list.mono (A' := fun b => w.heap.size < b) (fun b hb => by have := lt_heap HS7.out.z; omega))
      subst hve
      have HTS := Lib.hid hts
      have HR8 := Lib.hid hr8
      have HM8 := Lib.hid (HM7.out.trans hm8)
      have HS8 := Lib.hid (HS7.out.mv hm8 HRB.out)
      clear hts hn8 hr8 hm8 hpc hp
      go_wp2_with fail
      by_cases hg : isMark r j ⟨#[62]⟩ = true
      ·have hX := HX1.out
       unfold typTail at hX
       rw [if_pos HK.out, if_pos HMK.out, hl] at hX
       simp only at hX
       rw [if_pos hg] at hX
       clear HX0 HX1
       subst hX
       have hj1 := HE.out.mark HR8.out.lt hg (by decide)
       refine (need_yes r j lv _ ⟨#[62]⟩ w8 HR8.out hg (by decide) hj1).mono ?_
       rintro e w9 ⟨rfl, hr9, hm9⟩
       have HR9 := Lib.hid hr9
       have HM9 := Lib.hid (HM8.out.trans hm9)
       have HS9 := Lib.hid (HS8.out.mv hm9 HRB.out)
       have HT9 := Lib.hid (HTS.out.but (M := fun a => a.block = r.b) hm9 (fun a e q => by rw [e] at q; have := HRB.out; omega))
       clear hr9 hm9 hg
       go_wp2_with fail
       refine (node_any 15 _ _ p8 ts.length c8 w9).mono ?_
       rintro e w10 ⟨rfl, hb⟩
       have HR10 := Lib.hid (HR9.out.below hb)
       have HM10 := Lib.hid (HM9.out.trans (Mv.of_below (r := r) hb))
       have HS10 := Lib.hid (HS9.out.mv (Mv.of_below (r := r) hb) HRB.out)
       have HW := Lib.hid (res_world r (j + 1) lv _ w w10 ⟨15, (r.L.getD i tok0).text, (r.L.getD i tok0).at_, p8, ts.length, c8⟩ (.mk 15 (r.L.getD i tok0).text (r.L.getD i tok0).at_ ts) HRB.out HM10.out HS10.out.z (IsT.node _ _ _ (HT9.out.later hb)) HR10.out)
       clear hb
       obtain ⟨d0, d1, d2, d3, f0⟩ := HS10.out.cells
       unfold ndC
       go_wp2_with fail
       obtain ⟨hcell, hist, hrd, hmv⟩ := HW.out
       simp only [List.getD_eq_getElem?_getD] at hcell hist hrd hmv ⊢
       exact bodyPost_ret (results_cellT rfl _ _ _ ⟨w.heap.size, 0, none⟩ _ rfl (load_node _ _ ⟨15, (r.L[i]?.getD tok0).text, (r.L[i]?.getD tok0).at_, p8, ts.length, c8⟩ hcell)) rfl ⟨_, rfl, hist, hrd, hmv⟩
      ·have hg' : isMark r j ⟨#[62]⟩ = false := by simpa using hg
       have hX := HX1.out
       unfold typTail at hX
       rw [if_pos HK.out, if_pos HMK.out, hl] at hX
       simp only at hX
       rw [if_neg hg] at hX
       clear HX0 HX1
       subst hX
       refine (need_no r j lv _ ⟨#[62]⟩ w8 HR8.out hg').mono ?_
       rintro e w9 ⟨rfl, hb⟩
       have HM9 := Lib.hid (HM8.out.trans (Mv.of_below (r := r) hb))
       clear hb hg hg'
       unfold stopAt
       go_wp2_with fail
       exact ⟨rfl, rfl, HM9.out⟩
    ·have hm' : isMark r (i + 1) ⟨#[60]⟩ = false := by simpa using hm
     have hX := HX1.out
     unfold typTail at hX
     rw [if_pos HK.out, if_neg hm] at hX
     clear HX0 HX1
     subst hX
     refine (took_no r (i + 1) lv _ ⟨#[60]⟩ w6 HR6.out hm').mono ?_
     rintro e w7 ⟨rfl, hb⟩
     have HR7 := Lib.hid (HR6.out.below hb)
     have HM7 := Lib.hid (HM6.out.trans (Mv.of_below (r := r) hb))
     have HS7 := Lib.hid (HS6.out.mv (Mv.of_below (r := r) hb) HRB.out)
     clear hb hm hm'
     go_wp2_with fail
     refine (node_any 15 _ _ none 0 0 w7).mono ?_
     rintro e w8 ⟨rfl, hb⟩
     have HR8 := Lib.hid (HR7.out.below hb)
     have HM8 := Lib.hid (HM7.out.trans (Mv.of_below (r := r) hb))
     have HS8 := Lib.hid (HS7.out.mv (Mv.of_below (r := r) hb) HRB.out)
     have HW := Lib.hid (res_world r (i + 1) lv _ w w8 ⟨15, (r.L.getD i tok0).text, (r.L.getD i tok0).at_, none, 0, 0⟩ (.mk 15 (r.L.getD i tok0).text (r.L.getD i tok0).at_ []) HRB.out HM8.out HS8.out.z (IsT.leaf _ _ _ _ _) HR8.out)
     clear hb
     obtain ⟨d0, d1, d2, d3, f0⟩ := HS8.out.cells
     unfold ndC
     go_wp2_with fail
     obtain ⟨hcell, hist, hrd, hmv⟩ := HW.out
     simp only [List.getD_eq_getElem?_getD] at hcell hist hrd hmv ⊢
     exact bodyPost_ret (results_cellT rfl _ _ _ ⟨w.heap.size, 0, none⟩ _ rfl (load_node _ _ ⟨15, (r.L[i]?.getD tok0).text, (r.L[i]?.getD tok0).at_, none, 0, 0⟩ hcell)) rfl ⟨_, rfl, hist, hrd, hmv⟩
   ·have hX := HX1.out
    unfold typTail at hX
    rw [if_neg hk] at hX
    clear HX0 HX1
    subst hX
    have HK := Lib.hid hk
    clear hk
    refine (name_no r i lv _ w5 HR5.out HK.out).mono ?_
    rintro e w6 ⟨rfl, hb⟩
    have HM6 := Lib.hid (HM5.out.trans (Mv.of_below (r := r) hb))
    clear hb
    unfold stopAt
    go_wp2_with fail
    exact ⟨rfl, rfl, HM6.out⟩
end Go.Proofs.YtheigpiffdabnaaGreat
namespace Go.Proofs.YtheigpiffdabnaaGreat
open Go Go.RowKit
/-- a type of which so many levels are left -/
def typL (r : Rdr) (s : Bool) : Nat → PT
 | 0, i => .error i
 | d + 1, i => typAt r s (typL r s d) i
theorem listP_mono {r : Rdr} {sg : ByteArray} {part : PT} (hm : ∀ a t b, part a = .ok (t, b) → a ≤ b) : ∀ f i ts j, listP r sg part f i = .ok (ts, j) → i ≤ j
 | 0, i, ts, j, h => by cases h
 | f + 1, i, ts, j, h => by
  unfold listP at h
  cases hp : part i with
  | error k => rw [hp] at h; cases h
  | ok x =>
   obtain ⟨t, b⟩ := x
   rw [hp] at h
   simp only at h
   have h1 := hm _ _ _ hp
   split at h
   ·cases hl : listP r sg part f (b + 1) with
    | error k => rw [hl] at h; cases h
    | ok y =>
     obtain ⟨us, m⟩ := y
     rw [hl] at h
     simp only [Except.ok.injEq, Prod.mk.injEq] at h
     have h2 := listP_mono hm f (b + 1) us m hl
     omega
   ·simp only [Except.ok.injEq, Prod.mk.injEq] at h
    omega
theorem typAt_mono {r : Rdr} {s : Bool} {sub : PT} (hm : ∀ a t b, sub a = .ok (t, b) → a ≤ b) (i : Nat) (t : Tree) (j : Nat) (h : typAt r s sub i = .ok (t, j)) : i ≤ j := by
 unfold typAt typTail at h
 split at h
 ·simp only [Except.ok.injEq, Prod.mk.injEq] at h; omega
 ·split at h
  ·simp only [Except.ok.injEq, Prod.mk.injEq] at h; omega
  ·split at h
   ·split at h
    ·cases hl : listP r ⟨#[44]⟩ sub (r.L.length + 1) (i + 2) with
     | error k => rw [hl] at h; cases h
     | ok y =>
      obtain ⟨us, m⟩ := y
      rw [hl] at h
      simp only at h
      have h2 := listP_mono hm _ _ us m hl
      split at h
      ·simp only [Except.ok.injEq, Prod.mk.injEq] at h; omega
      ·cases h
    ·simp only [Except.ok.injEq, Prod.mk.injEq] at h; omega
   ·cases h
theorem typL_mono {r : Rdr} {s : Bool} : ∀ d a t b, typL r s d a = .ok (t, b) → a ≤ b
 | 0, a, t, b, h => by cases h
 | d + 1, a, t, b, h => typAt_mono (typL_mono d) a t b h
set_option maxRecDepth 100000 in
set_option maxHeartbeats 1000000 in
theorem typeBelow_any (r : Rdr) (s : Bool) (hE : EndAt r) : ∀ (d i lv : Nat) (w : World), RdAt r i lv s w → lv + d = 60 →
  Calls Tryz.prog 60 #[.pointer (some ⟨r.b, 0, none⟩)] w (RulePost r (typL r s d i) lv s w) := by
 intro d
 induction d with
 | zero =>
  intro i lv w h hd
  have hl : lv = 60 := by omega
  subst hl
  have HR1 := Lib.hid (h.below (boxB w (.cells #[.int .i64 0, .string ⟨#[]⟩, .int .i64 0, .slice none 0 0] 37)))
  have HB1 := Lib.hid (boxB w (.cells #[.int .i64 0, .string ⟨#[]⟩, .int .i64 0, .slice none 0 0] 37))
  clear h
  go_enter Tryz.func60, Tryz.ntmps60
  go_wp2_with fail
  refine (below_deep r i s _ _ HR1.out).mono ?_
  rintro e w2 ⟨rfl, hb⟩
  have HM2 := Lib.hid (Mv.of_below (r := r) (HB1.out.trans (hb.mono HB1.out.size)))
  clear hb
  unfold stopAt
  go_wp2_with fail
  exact ⟨rfl, rfl, HM2.out⟩
 | succ d ih =>
  intro i lv w h hd
  have HRB : Hid (r.b < w.heap.size) := lt_heap h.cells
  have HR1 := Lib.hid (h.below (boxB w (.cells #[.int .i64 0, .string ⟨#[]⟩, .int .i64 0, .slice none 0 0] 37)))
  have HM1 := Lib.hid (Mv.of_below (r := r) (boxB w (.cells #[.int .i64 0, .string ⟨#[]⟩, .int .i64 0, .slice none 0 0] 37)))
  have HS1 := Lib.hid (ResAt.start w)
  have HP : Hid (∀ w1, RdAt r i (lv + 1) s w1 → Calls Tryz.prog 76 #[.pointer (some ⟨r.b, 0, none⟩)] w1 (RulePost r (typL r s (d + 1) i) (lv + 1) s w1)) :=
   fun w1 h1 => typeOf_any r i (lv + 1) s (typL r s d) w1 h1 hE (typL_mono d) (fun a w2 h2 => ih a (lv + 1) w2 h2 (by omega))
  clear h ih
  generalize typL r s (d + 1) i = X at *
  go_enter Tryz.func60, Tryz.ntmps60
  go_wp2_with fail
  generalize w.alloc (.cells #[.int .i64 0, .string ⟨#[]⟩, .int .i64 0, .slice none 0 0] 37) = w1 at *
  refine (below_ok r i lv s 76 X w1 HR1.out (by omega) (fun args w => by kernel_rfl) HP.out).mono ?_
  intro e w2 hp
  match X, hp with
  | .error k, hp =>
   obtain ⟨rfl, hm⟩ := hp
   have HM2 := Lib.hid (HM1.out.trans hm)
   unfold stopAt
   go_wp2_with fail
   exact ⟨rfl, rfl, HM2.out⟩
  | .ok (t, j), hp =>
   obtain ⟨q, rfl, ht, hr2, hm2⟩ := hp
   have HS2 := Lib.hid (HS1.out.mv hm2 HRB.out)
   have hlt := lt_heap HS1.out.z
   have HW := Lib.hid (res_world r j lv s w w2 q t HRB.out (HM1.out.trans hm2) HS2.out.z (ht.mono (fun b hb => by omega)) hr2)
   obtain ⟨d0, d1, d2, d3, f0⟩ := HS2.out.cells
   obtain ⟨qk, qt, qa, qp, qn, qc⟩ := q
   unfold ndC
   clear ht hr2 hm2 hp
   go_wp2_with fail
   obtain ⟨hcell, hist, hrd, hmv⟩ := HW.out
   exact bodyPost_ret (results_cellT rfl _ _ _ ⟨w.heap.size, 0, none⟩ _ rfl (load_node _ _ ⟨qk, qt, qa, qp, qn, qc⟩ hcell)) rfl ⟨_, rfl, hist, hrd, hmv⟩
end Go.Proofs.YtheigpiffdabnaaGreat
