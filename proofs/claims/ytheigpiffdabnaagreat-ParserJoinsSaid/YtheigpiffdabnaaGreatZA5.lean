/-
  CONTRACTS: a parameter, and a result's type.
-/
import Derived.Test.YtheigpiffdabnaaGreatZA4
set_option linter.unusedSimpArgs false
set_option linter.unusedVariables false
namespace Go.Proofs.YtheigpiffdabnaaGreat
open Go Go.RowKit
/-- no params -/
def noParamsP (r : Rdr) (i : Nat) : Except Nat (Tree × Nat) := .ok (.mk 10 ⟨#[]⟩ (r.L.getD i tok0).at_ [], i)
/-- what a result is -/
def resultP (r : Rdr) (tb : PT) (i : Nat) : Except Nat (Tree × Nat) := if isMark r i ⟨#[45, 62]⟩ = true then tb (i + 1) else .ok (.mk 15 ⟨#[117, 110, 105, 116]⟩ (r.L.getD i tok0).at_ [], i)
/-- a parameter -/
def argP (r : Rdr) (tb : PT) (i : Nat) : Except Nat (Tree × Nat) :=
 if (r.L.getD i tok0).kind = 1 then
  (if isMark r (i + 1) ⟨#[58]⟩ = true then (match tb (i + 2) with | .error k => .error k | .ok (t, j) => .ok (.mk 13 (r.L.getD i tok0).text (r.L.getD i tok0).at_ [t], j)) else .error (i + 1))
 else .error i
set_option maxRecDepth 100000 in
set_option maxHeartbeats 1000000 in
theorem noParams_any (r : Rdr) (i lv : Nat) (s : Bool) (w : World) (h : RdAt r i lv s w) :
  Calls Tryz.prog 81 #[.pointer (some ⟨r.b, 0, none⟩)] w (RulePost r (noParamsP r i) lv s w) := by
 have HRB : Hid (r.b < w.heap.size) := lt_heap h.cells
 have HR1 := Lib.hid (h.below (boxB w (.cells #[.int .i64 0, .string ⟨#[]⟩, .int .i64 0, .slice none 0 0] 37)))
 have HM1 := Lib.hid (Mv.of_below (r := r) (boxB w (.cells #[.int .i64 0, .string ⟨#[]⟩, .int .i64 0, .slice none 0 0] 37)))
 have HS1 := Lib.hid (ResAt.start w)
 unfold noParamsP
 clear h
 go_enter Tryz.func81, Tryz.ntmps81
 go_wp2_with fail
 generalize w.alloc (.cells #[.int .i64 0, .string ⟨#[]⟩, .int .i64 0, .slice none 0 0] 37) = w1 at *
 refine (here_any r i lv s w1 HR1.out).mono ?_
 rintro e w2 ⟨rfl, hb⟩
 have HR2 := Lib.hid (HR1.out.below hb)
 have HM2 := Lib.hid (HM1.out.trans (Mv.of_below (r := r) hb))
 have HS2 := Lib.hid (HS1.out.mv (Mv.of_below (r := r) hb) HRB.out)
 clear hb
 go_wp2_with fail
 refine (node_any 10 _ _ none 0 0 w2).mono ?_
 rintro e w3 ⟨rfl, hb⟩
 have HR3 := Lib.hid (HR2.out.below hb)
 have HM3 := Lib.hid (HM2.out.trans (Mv.of_below (r := r) hb))
 have HS3 := Lib.hid (HS2.out.mv (Mv.of_below (r := r) hb) HRB.out)
 clear hb
 have HW := Lib.hid (res_world r i lv s w w3 ⟨10, ⟨#[]⟩, (r.L.getD i tok0).at_, none, 0, 0⟩ (.mk 10 ⟨#[]⟩ (r.L.getD i tok0).at_ []) HRB.out HM3.out HS3.out.z (IsT.leaf _ _ _ _ _) HR3.out)
 obtain ⟨d0, d1, d2, d3, f0⟩ := HS3.out.cells
 unfold ndC
 go_wp2_with fail
 obtain ⟨hcell, hist, hrd, hmv⟩ := HW.out
 simp only [List.getD_eq_getElem?_getD] at hcell hist hrd hmv ⊢
 exact bodyPost_ret (results_cellT rfl _ _ _ ⟨w.heap.size, 0, none⟩ _ rfl (load_node _ _ ⟨10, ⟨#[]⟩, (r.L[i]?.getD tok0).at_, none, 0, 0⟩ hcell)) rfl ⟨_, rfl, hist, hrd, hmv⟩
set_option maxRecDepth 100000 in
set_option maxHeartbeats 1000000 in
theorem result_any (r : Rdr) (i lv : Nat) (s : Bool) (tb : PT) (w : World) (h : RdAt r i lv s w) (hE : EndAt r)
  (HB : ∀ a w1, RdAt r a lv s w1 → Calls Tryz.prog 60 #[.pointer (some ⟨r.b, 0, none⟩)] w1 (RulePost r (tb a) lv s w1)) :
  Calls Tryz.prog 78 #[.pointer (some ⟨r.b, 0, none⟩)] w (RulePost r (resultP r tb i) lv s w) := by
 have HRB : Hid (r.b < w.heap.size) := lt_heap h.cells
 have HR1 := Lib.hid (h.below (boxB w (.cells #[.int .i64 0, .string ⟨#[]⟩, .int .i64 0, .slice none 0 0] 37)))
 have HM1 := Lib.hid (Mv.of_below (r := r) (boxB w (.cells #[.int .i64 0, .string ⟨#[]⟩, .int .i64 0, .slice none 0 0] 37)))
 have HS1 := Lib.hid (ResAt.start w)
 generalize hX0 : resultP r tb i = X
 have HX0 := Lib.hid hX0
 have HE := Lib.hid hE
 have HSUB := Lib.hid HB
 clear hX0 h hE HB
 go_enter Tryz.func78, Tryz.ntmps78
 go_wp2_with fail
 generalize w.alloc (.cells #[.int .i64 0, .string ⟨#[]⟩, .int .i64 0, .slice none 0 0] 37) = w1 at *
 by_cases hm : isMark r i ⟨#[45, 62]⟩ = true
 ·have hX := HX0.out
  unfold resultP at hX
  rw [if_pos hm] at hX
  clear HX0
  have hi1 := HE.out.mark HR1.out.lt hm (by decide)
  refine (took_yes r i lv s ⟨#[45, 62]⟩ w1 HR1.out hm (by decide) hi1).mono ?_
  rintro e w2 ⟨rfl, hr2, hm2⟩
  have HR2 := Lib.hid hr2
  have HM2 := Lib.hid (HM1.out.trans hm2)
  have HS2 := Lib.hid (HS1.out.mv hm2 HRB.out)
  clear hr2 hm2
  clear hm
  go_wp2_with fail
  refine (HSUB.out (i + 1) w2 HR2.out).mono ?_
  rw [hX]
  intro e w3 hp
  clear hX
  match X, hp with
  | .error k, hp =>
   obtain ⟨rfl, hm3⟩ := hp
   have HM3 := Lib.hid (HM2.out.trans hm3)
   unfold stopAt
   go_wp2_with fail
   exact ⟨rfl, rfl, HM3.out⟩
  | .ok (t, j), hp =>
   obtain ⟨q, rfl, ht, hr3, hm3⟩ := hp
   have HS3 := Lib.hid (HS2.out.mv hm3 HRB.out)
   have hlt := lt_heap HS2.out.z
   have HW := Lib.hid (res_world r j lv s w w3 q t HRB.out (HM2.out.trans hm3) HS3.out.z (ht.mono (fun b hb => by omega)) hr3)
   obtain ⟨d0, d1, d2, d3, f0⟩ := HS3.out.cells
   obtain ⟨qk, qt, qa, qp, qn, qc⟩ := q
   unfold ndC
   clear ht hr3 hm3 hp
   go_wp2_with fail
   obtain ⟨hcell, hist, hrd, hmv⟩ := HW.out
   exact bodyPost_ret (results_cellT rfl _ _ _ ⟨w.heap.size, 0, none⟩ _ rfl (load_node _ _ ⟨qk, qt, qa, qp, qn, qc⟩ hcell)) rfl ⟨_, rfl, hist, hrd, hmv⟩
 ·have hm' : isMark r i ⟨#[45, 62]⟩ = false := by simpa using hm
  have hX := HX0.out
  unfold resultP at hX
  rw [if_neg hm] at hX
  clear HX0
  subst hX
  refine (took_no r i lv s ⟨#[45, 62]⟩ w1 HR1.out hm').mono ?_
  rintro e w2 ⟨rfl, hb⟩
  have HR2 := Lib.hid (HR1.out.below hb)
  have HM2 := Lib.hid (HM1.out.trans (Mv.of_below (r := r) hb))
  have HS2 := Lib.hid (HS1.out.mv (Mv.of_below (r := r) hb) HRB.out)
  clear hb
  clear hm hm'
  go_wp2_with fail
  refine (here_any r i lv s w2 HR2.out).mono ?_
  rintro e w3 ⟨rfl, hb⟩
  have HR3 := Lib.hid (HR2.out.below hb)
  have HM3 := Lib.hid (HM2.out.trans (Mv.of_below (r := r) hb))
  have HS3 := Lib.hid (HS2.out.mv (Mv.of_below (r := r) hb) HRB.out)
  clear hb
  go_wp2_with fail
  refine (node_any 15 _ _ none 0 0 w3).mono ?_
  rintro e w4 ⟨rfl, hb⟩
  have HR4 := Lib.hid (HR3.out.below hb)
  have HM4 := Lib.hid (HM3.out.trans (Mv.of_below (r := r) hb))
  have HS4 := Lib.hid (HS3.out.mv (Mv.of_below (r := r) hb) HRB.out)
  clear hb
  have HW := Lib.hid (res_world r i lv s w w4 ⟨15, ⟨#[117, 110, 105, 116]⟩, (r.L.getD i tok0).at_, none, 0, 0⟩ (.mk 15 ⟨#[117, 110, 105, 116]⟩ (r.L.getD i tok0).at_ []) HRB.out HM4.out HS4.out.z (IsT.leaf _ _ _ _ _) HR4.out)
  obtain ⟨d0, d1, d2, d3, f0⟩ := HS4.out.cells
  unfold ndC
  go_wp2_with fail
  obtain ⟨hcell, hist, hrd, hmv⟩ := HW.out
  simp only [List.getD_eq_getElem?_getD] at hcell hist hrd hmv ⊢
  exact bodyPost_ret (results_cellT rfl _ _ _ ⟨w.heap.size, 0, none⟩ _ rfl (load_node _ _ ⟨15, ⟨#[117, 110, 105, 116]⟩, (r.L[i]?.getD tok0).at_, none, 0, 0⟩ hcell)) rfl ⟨_, rfl, hist, hrd, hmv⟩
set_option maxRecDepth 100000 in
set_option maxHeartbeats 1000000 in
theorem arg_any (r : Rdr) (i lv : Nat) (s : Bool) (tb : PT) (w : World) (h : RdAt r i lv s w) (hE : EndAt r)
  (HB : ∀ a w1, RdAt r a lv s w1 → Calls Tryz.prog 60 #[.pointer (some ⟨r.b, 0, none⟩)] w1 (RulePost r (tb a) lv s w1)) :
  Calls Tryz.prog 66 #[.pointer (some ⟨r.b, 0, none⟩)] w (RulePost r (argP r tb i) lv s w) := by
 have HRB : Hid (r.b < w.heap.size) := lt_heap h.cells
 have HR1 := Lib.hid (h.below (boxB w (.cells #[.int .i64 0, .string ⟨#[]⟩, .int .i64 0, .slice none 0 0] 37)))
 have HM1 := Lib.hid (Mv.of_below (r := r) (boxB w (.cells #[.int .i64 0, .string ⟨#[]⟩, .int .i64 0, .slice none 0 0] 37)))
 have HS1 := Lib.hid (ResAt.start w)
 generalize hX0 : argP r tb i = X
 have HX0 := Lib.hid hX0
 have HE := Lib.hid hE
 have HSUB := Lib.hid HB
 clear hX0 h hE HB
 go_enter Tryz.func66, Tryz.ntmps66
 go_wp2_with fail
 generalize w.alloc (.cells #[.int .i64 0, .string ⟨#[]⟩, .int .i64 0, .slice none 0 0] 37) = w1 at *
 refine (here_any r i lv s w1 HR1.out).mono ?_
 rintro e w2 ⟨rfl, hb⟩
 have HR2 := Lib.hid (HR1.out.below hb)
 have HM2 := Lib.hid (HM1.out.trans (Mv.of_below (r := r) hb))
 have HS2 := Lib.hid (HS1.out.mv (Mv.of_below (r := r) hb) HRB.out)
 clear hb
 go_wp2_with fail
 by_cases hk : (r.L.getD i tok0).kind = 1
 ·have hi1 := HE.out i HR2.out.lt (.inl hk)
  have HK := Lib.hid hk
  clear hk
  refine (name_yes r i lv s w2 HR2.out HK.out hi1).mono ?_
  rintro e w3 ⟨rfl, hr3, hm3⟩
  have HR3 := Lib.hid hr3
  have HM3 := Lib.hid (HM2.out.trans hm3)
  have HS3 := Lib.hid (HS2.out.mv hm3 HRB.out)
  clear hr3 hm3
  go_wp2_with fail
  by_cases hm : isMark r (i + 1) ⟨#[58]⟩ = true
  ·have hi2 := HE.out.mark HR3.out.lt hm (by decide)
   have HMK := Lib.hid hm
   clear hm
   refine (need_yes r (i + 1) lv s ⟨#[58]⟩ w3 HR3.out HMK.out (by decide) hi2).mono ?_
   rintro e w4 ⟨rfl, hr4, hm4⟩
   have HR4 := Lib.hid hr4
   have HM4 := Lib.hid (HM3.out.trans hm4)
   have HS4 := Lib.hid (HS3.out.mv hm4 HRB.out)
   clear hr4 hm4
   go_wp2_with fail
   refine (HSUB.out (i + 2) w4 HR4.out).mono ?_
   intro e w5 hp
   match hl : tb (i + 2), hp with
   | .error k, hp =>
    have hX := HX0.out
    unfold argP at hX
    rw [if_pos HK.out, if_pos HMK.out, hl] at hX
    clear HX0
    subst hX
    obtain ⟨rfl, hm5⟩ := hp
    have HM5 := Lib.hid (HM4.out.trans hm5)
    unfold stopAt
    go_wp2_with fail
    exact ⟨rfl, rfl, HM5.out⟩
   | .ok (t, j), hp =>
    have hX := HX0.out
    unfold argP at hX
    rw [if_pos HK.out, if_pos HMK.out, hl] at hX
    clear HX0
    subst hX
    obtain ⟨q, rfl, ht, hr5, hm5⟩ := hp
    have hb6 := boxB w5 (.cells (ndC q) 37)
    have HN6 := Lib.hid ((Nodes.first ht hm5.size).list)
    have hm6 := hm5.trans (Mv.of_below (r := r) hb6)
    have HR6 := Lib.hid (hr5.below hb6)
    have HM6 := Lib.hid (HM4.out.trans hm6)
    have HS6 := Lib.hid (HS4.out.mv hm6 HRB.out)
    have hlt := lt_heap HS4.out.z
    obtain ⟨qk, qt, qa, qp, qn, qc⟩ := q
    unfold ndC at HN6 HR6 HM6 HS6 ⊢
    clear ht hr5 hm5 hp hb6 hm6
    go_wp2_with fail
    generalize w5.alloc (.cells #[.int .i64 qk, .string qt, .int .i64 qa, .slice qp qn qc] 37) = w6 at *
    refine (node_any 13 _ _ (some ⟨w5.heap.size, 0, none⟩) 1 1 w6).mono ?_
    rintro e w7 ⟨rfl, hb⟩
    have HR7 := Lib.hid (HR6.out.below hb)
    have HM7 := Lib.hid (HM6.out.trans (Mv.of_below (r := r) hb))
    have HS7 := Lib.hid (HS6.out.mv (Mv.of_below (r := r) hb) HRB.out)
    have HN7 := Lib.hid ((HN6.out.later hb).mono (A' := fun b => w.heap.size < b) (fun b hb => by omega))
    clear hb
    have HW := Lib.hid (res_world r j lv s w w7 ⟨13, (r.L.getD i tok0).text, (r.L.getD i tok0).at_, some ⟨w5.heap.size, 0, none⟩, 1, 1⟩ (.mk 13 (r.L.getD i tok0).text (r.L.getD i tok0).at_ [t]) HRB.out HM7.out HS7.out.z (IsT.node _ _ _ HN7.out) HR7.out)
    obtain ⟨d0, d1, d2, d3, f0⟩ := HS7.out.cells
    unfold ndC
    go_wp2_with fail
    obtain ⟨hcell, hist, hrd, hmv⟩ := HW.out
    simp only [List.getD_eq_getElem?_getD] at hcell hist hrd hmv ⊢
    exact bodyPost_ret (results_cellT rfl _ _ _ ⟨w.heap.size, 0, none⟩ _ rfl (load_node _ _ ⟨13, (r.L[i]?.getD tok0).text, (r.L[i]?.getD tok0).at_, some ⟨w5.heap.size, 0, none⟩, 1, 1⟩ hcell)) rfl ⟨_, rfl, hist, hrd, hmv⟩
  ·have hm' : isMark r (i + 1) ⟨#[58]⟩ = false := by simpa using hm
   have hX := HX0.out
   unfold argP at hX
   rw [if_pos HK.out, if_neg hm] at hX
   clear HX0
   subst hX
   refine (need_no r (i + 1) lv s ⟨#[58]⟩ w3 HR3.out hm').mono ?_
   rintro e w4 ⟨rfl, hb⟩
   have HM4 := Lib.hid (HM3.out.trans (Mv.of_below (r := r) hb))
   clear hb
   unfold stopAt
   go_wp2_with fail
   exact ⟨rfl, rfl, HM4.out⟩
 ·have hX := HX0.out
  unfold argP at hX
  rw [if_neg hk] at hX
  clear HX0
  subst hX
  have HK := Lib.hid hk
  clear hk
  refine (name_no r i lv s w2 HR2.out HK.out).mono ?_
  rintro e w3 ⟨rfl, hb⟩
  have HM3 := Lib.hid (HM2.out.trans (Mv.of_below (r := r) hb))
  clear hb
  unfold stopAt
  go_wp2_with fail
  exact ⟨rfl, rfl, HM3.out⟩
end Go.Proofs.YtheigpiffdabnaaGreat
namespace Go.Proofs.YtheigpiffdabnaaGreat
open Go Go.RowKit
/-- any number of nodes with commas between them, and the mark behind them -/
def upToP (r : Rdr) (en : ByteArray) (part : PT) (i : Nat) : Except Nat (List Tree × Nat) :=
 if isMark r i en = true then .ok ([], i + 1) else (match listP r ⟨#[44]⟩ part (r.L.length + 1) i with | .error k => .error k | .ok (ts, j) => if isMark r j en = true then .ok (ts, j + 1) else .error j)
/-- args between two marks -/
def argsP (r : Rdr) (be en : ByteArray) (part : PT) (i : Nat) : Except Nat (Tree × Nat) :=
 if isMark r i be = true then (match upToP r en part (i + 1) with | .error k => .error k | .ok (ts, j) => .ok (.mk 12 ⟨#[]⟩ (r.L.getD (i + 1) tok0).at_ ts, j)) else .error i
set_option maxRecDepth 100000 in
set_option maxHeartbeats 1000000 in
theorem listUpTo_any (r : Rdr) (i lv : Nat) (s : Bool) (en : ByteArray) (F : FuncId) (part : PT) (w : World) (h : RdAt r i lv s w) (hE : EndAt r) (hs : en.size ≠ 0) (hF : ∀ args w, (callFunc F args).run Tryz.prog w = .ok (.enter F args) w)
  (hmono : ∀ a t b, part a = .ok (t, b) → a ≤ b) (HP : ∀ a w1, RdAt r a lv s w1 → Calls Tryz.prog F #[.pointer (some ⟨r.b, 0, none⟩)] w1 (RulePost r (part a) lv s w1)) :
  Calls Tryz.prog 84 #[.pointer (some ⟨r.b, 0, none⟩), .string en, .func (.func F) #[] #[]] w (ListPost r (upToP r en part i) lv s w) := by
 have HR := Lib.hid h
 have HPP := Lib.hid HP
 have HMO := Lib.hid hmono
 have HE := Lib.hid hE
 have HFF := Lib.hid hF
 have HRB : Hid (r.b < w.heap.size) := lt_heap h.cells
 generalize hX0 : upToP r en part i = X
 have HX0 := Lib.hid hX0
 clear hX0 h HP hmono hE hF
 go_enter Tryz.func84, Tryz.ntmps84
 go_wp2_with fail
 by_cases hm : isMark r i en = true
 ·have hX := HX0.out
  unfold upToP at hX
  rw [if_pos hm] at hX
  clear HX0
  subst hX
  have hi1 := HE.out.mark HR.out.lt hm hs
  refine (took_yes r i lv s en w HR.out hm hs hi1).mono ?_
  rintro e w2 ⟨rfl, hr2, hm2⟩
  have HR2 := Lib.hid hr2
  have HM2 := Lib.hid hm2
  clear hr2 hm2 hm
  go_wp2_with fail
  go_ret
  exact ⟨_, rfl, ⟨[], OwnL.isNil _ _ _ _, rfl, fun i h => absurd h (by simp)⟩, HR2.out, HM2.out⟩
 ·have hm' : isMark r i en = false := by simpa using hm
  have HX1 : Hid ((match listP r ⟨#[44]⟩ part (r.L.length + 1) i with | .error k => .error k | .ok (ts, j) => if isMark r j en = true then .ok (ts, j + 1) else .error j) = X) := by
   have hX := HX0.out
   unfold upToP at hX
   rw [if_neg hm] at hX
   exact hX
  refine (took_no r i lv s en w HR.out hm').mono ?_
  rintro e w2 ⟨rfl, hb⟩
  have HR2 := Lib.hid (HR.out.below hb)
  have HM2 := Lib.hid (Mv.of_below (r := r) hb)
  clear hb hm hm' HX0
  go_wp2_with fail
  refine (list_any r i lv s ⟨#[44]⟩ F part w2 HR2.out HE.out (by decide) HFF.out HMO.out HPP.out).mono ?_
  intro e w3 hp
  match hl : listP r ⟨#[44]⟩ part (r.L.length + 1) i, hp with
  | .error k, hp =>
   have hX := HX1.out
   rw [hl] at hX
   clear HX1
   subst hX
   obtain ⟨rfl, hm3⟩ := hp
   have HM3 := Lib.hid (HM2.out.trans hm3)
   unfold stopAt
   go_wp2_with fail
   exact ⟨rfl, rfl, HM3.out⟩
  | .ok (ts, j), hp =>
   obtain ⟨v, rfl, hn3, hr3, hm3⟩ := hp
   have HR3 := Lib.hid hr3
   have HM3 := Lib.hid (HM2.out.trans hm3)
   have HN3 := Lib.hid hn3
   have HSZ := Lib.hid HM2.out.size
   clear hr3 hm3 hn3 hp
   go_wp2_with fail
   by_cases hg : isMark r j en = true
   ·have hX := HX1.out
    rw [hl] at hX
    simp only at hX
    rw [if_pos hg] at hX
    clear HX1
    subst hX
    have hj1 := HE.out.mark HR3.out.lt hg hs
    refine (need_yes r j lv s en w3 HR3.out hg hs hj1).mono ?_
    rintro e w4 ⟨rfl, hr4, hm4⟩
    have HR4 := Lib.hid hr4
    have HM4 := Lib.hid (HM3.out.trans hm4)
    have HN4 := Lib.hid (HN3.out.mv hm4 (by have := HRB.out; have := HSZ.out; omega))
    clear hr4 hm4 hg
    go_wp2_with fail
    go_ret
    obtain ⟨R, ho, hR, ht⟩ := HN4.out
    exact ⟨_, rfl, ⟨R, ⟨ho.1, ho.2.imp id (fun ⟨g, c, cur, e, hb, rest⟩ => ⟨g, c, cur, e, Nat.le_trans HSZ.out hb, rest⟩)⟩, hR, fun i a b => (ht i a b).mono (fun b hb => ⟨Nat.le_trans HSZ.out hb.1, hb.2⟩)⟩, HR4.out, HM4.out⟩
   ·have hg' : isMark r j en = false := by simpa using hg
    have hX := HX1.out
    rw [hl] at hX
    simp only at hX
    rw [if_neg hg] at hX
    clear HX1
    subst hX
    refine (need_no r j lv s en w3 HR3.out hg').mono ?_
    rintro e w4 ⟨rfl, hb⟩
    have HM4 := Lib.hid (HM3.out.trans (Mv.of_below (r := r) hb))
    clear hb hg hg'
    unfold stopAt
    go_wp2_with fail
    exact ⟨rfl, rfl, HM4.out⟩
set_option maxRecDepth 100000 in
set_option maxHeartbeats 1000000 in
theorem args_any (r : Rdr) (i lv : Nat) (s : Bool) (be en : ByteArray) (F : FuncId) (part : PT) (w : World) (h : RdAt r i lv s w) (hE : EndAt r) (hbe : be.size ≠ 0) (hs : en.size ≠ 0) (hF : ∀ args w, (callFunc F args).run Tryz.prog w = .ok (.enter F args) w)
  (hmono : ∀ a t b, part a = .ok (t, b) → a ≤ b) (HP : ∀ a w1, RdAt r a lv s w1 → Calls Tryz.prog F #[.pointer (some ⟨r.b, 0, none⟩)] w1 (RulePost r (part a) lv s w1)) :
  Calls Tryz.prog 65 #[.pointer (some ⟨r.b, 0, none⟩), .string be, .string en, .func (.func F) #[] #[]] w (RulePost r (argsP r be en part i) lv s w) := by
 have HRB : Hid (r.b < w.heap.size) := lt_heap h.cells
 have HR1 := Lib.hid (h.below (boxB w (.cells #[.int .i64 0, .string ⟨#[]⟩, .int .i64 0, .slice none 0 0] 37)))
 have HM1 := Lib.hid (Mv.of_below (r := r) (boxB w (.cells #[.int .i64 0, .string ⟨#[]⟩, .int .i64 0, .slice none 0 0] 37)))
 have HS1 := Lib.hid (ResAt.start w)
 generalize hX0 : argsP r be en part i = X
 have HX0 := Lib.hid hX0
 have HE := Lib.hid hE
 have HPP := Lib.hid HP
 have HMO := Lib.hid hmono
 have HFF := Lib.hid hF
 clear hX0 h hE HP hmono hF
 go_enter Tryz.func65, Tryz.ntmps65
 go_wp2_with fail
 generalize w.alloc (.cells #[.int .i64 0, .string ⟨#[]⟩, .int .i64 0, .slice none 0 0] 37) = w1 at *
 by_cases hm : isMark r i be = true
 ·have hi1 := HE.out.mark HR1.out.lt hm hbe
  have HMK := Lib.hid hm
  clear hm
  refine (need_yes r i lv s be w1 HR1.out HMK.out hbe hi1).mono ?_
  rintro e w2 ⟨rfl, hr2, hm2⟩
  have HR2 := Lib.hid hr2
  have HM2 := Lib.hid (HM1.out.trans hm2)
  have HS2 := Lib.hid (HS1.out.mv hm2 HRB.out)
  clear hr2 hm2
  clear hi1
  go_wp2_with fail
  refine (here_any r (i + 1) lv s w2 HR2.out).mono ?_
  rintro e w3 ⟨rfl, hb⟩
  have HR3 := Lib.hid (HR2.out.below hb)
  have HM3 := Lib.hid (HM2.out.trans (Mv.of_below (r := r) hb))
  have HS3 := Lib.hid (HS2.out.mv (Mv.of_below (r := r) hb) HRB.out)
  clear hb
  go_wp2_with fail
  refine (listUpTo_any r (i + 1) lv s en F part w3 HR3.out HE.out hs HFF.out HMO.out HPP.out).mono ?_
  intro e w4 hp
  match hl : upToP r en part (i + 1), hp with
  | .error k, hp =>
   have hX := HX0.out
   unfold argsP at hX
   rw [if_pos HMK.out, hl] at hX
   clear HX0
   subst hX
   obtain ⟨rfl, hm4⟩ := hp
   have HM4 := Lib.hid (HM3.out.trans hm4)
   unfold stopAt
   go_wp2_with fail
   exact ⟨rfl, rfl, HM4.out⟩
  | .ok (ts, j), hp =>
   have hX := HX0.out
   unfold argsP at hX
   rw [if_pos HMK.out, hl] at hX
   clear HX0
   subst hX
   obtain ⟨v, rfl, hn4, hr4, hm4⟩ := hp
   obtain ⟨p4, c4, hve, -, -⟩ := hn4.slice
   have hlt := lt_heap HS3.out.z
   have HN4 := Lib.hid (hn4.list.mono (A' := fun b => w.heap.size < b) (fun b hb => by omega))
   subst hve
   have HR4 := Lib.hid hr4
   have HM4 := Lib.hid (HM3.out.trans hm4)
   have HS4 := Lib.hid (HS3.out.mv hm4 HRB.out)
   clear hn4 hr4 hm4 hp
   go_wp2_with fail
   refine (node_any 12 _ _ p4 ts.length c4 w4).mono ?_
   rintro e w5 ⟨rfl, hb⟩
   have HR5 := Lib.hid (HR4.out.below hb)
   have HM5 := Lib.hid (HM4.out.trans (Mv.of_below (r := r) hb))
   have HS5 := Lib.hid (HS4.out.mv (Mv.of_below (r := r) hb) HRB.out)
   have HN5 := Lib.hid (HN4.out.later hb)
   clear hb
   have HW := Lib.hid (res_world r j lv s w w5 ⟨12, ⟨#[]⟩, (r.L.getD (i + 1) tok0).at_, p4, ts.length, c4⟩ (.mk 12 ⟨#[]⟩ (r.L.getD (i + 1) tok0).at_ ts) HRB.out HM5.out HS5.out.z (IsT.node _ _ _ HN5.out) HR5.out)
   obtain ⟨d0, d1, d2, d3, f0⟩ := HS5.out.cells
   unfold ndC
   go_wp2_with fail
   obtain ⟨hcell, hist, hrd, hmv⟩ := HW.out
   simp only [List.getD_eq_getElem?_getD] at hcell hist hrd hmv ⊢
   exact bodyPost_ret (results_cellT rfl _ _ _ ⟨w.heap.size, 0, none⟩ _ rfl (load_node _ _ ⟨12, ⟨#[]⟩, (r.L[i + 1]?.getD tok0).at_, p4, ts.length, c4⟩ hcell)) rfl ⟨_, rfl, hist, hrd, hmv⟩
 ·have hm' : isMark r i be = false := by simpa using hm
  have hX := HX0.out
  unfold argsP at hX
  rw [if_neg hm] at hX
  clear HX0
  subst hX
  refine (need_no r i lv s be w1 HR1.out hm').mono ?_
  rintro e w2 ⟨rfl, hb⟩
  have HM2 := Lib.hid (HM1.out.trans (Mv.of_below (r := r) hb))
  clear hb
  unfold stopAt
  go_wp2_with fail
  exact ⟨rfl, rfl, HM2.out⟩
end Go.Proofs.YtheigpiffdabnaaGreat
namespace Go.Proofs.YtheigpiffdabnaaGreat
open Go Go.RowKit
attribute [local go_sem] field_tok0 field_tok1 field_tok2
/-- a type parameter -/
def paramP (r : Rdr) (i : Nat) : Except Nat (Tree × Nat) :=
 if (r.L.getD i tok0).kind = 1 then
  (if isMark r (i + 1) ⟨#[58]⟩ = true then (match nameP r (i + 2) with | .error k => .error k | .ok (t, j) => .ok (.mk 11 (r.L.getD i tok0).text (r.L.getD i tok0).at_ [t], j)) else .ok (.mk 11 (r.L.getD i tok0).text (r.L.getD i tok0).at_ [], i + 1))
 else .error i
/-- type parameters, or none -/
def paramsP (r : Rdr) (i : Nat) : Except Nat (Tree × Nat) :=
 if isMark r i ⟨#[60]⟩ = true then (match listP r ⟨#[44]⟩ (paramP r) (r.L.length + 1) (i + 1) with | .error k => .error k | .ok (ts, j) => if isMark r j ⟨#[62]⟩ = true then .ok (.mk 10 ⟨#[]⟩ (r.L.getD i tok0).at_ ts, j + 1) else .error j) else noParamsP r i
theorem nameP_mono {r : Rdr} (a : Nat) (t : Tree) (b : Nat) (h : nameP r a = .ok (t, b)) : a ≤ b := by
 unfold nameP at h
 split at h
 ·simp only [Except.ok.injEq, Prod.mk.injEq] at h; omega
 ·cases h
theorem paramP_mono {r : Rdr} (a : Nat) (t : Tree) (b : Nat) (h : paramP r a = .ok (t, b)) : a ≤ b := by
 unfold paramP at h
 split at h
 ·split at h
  ·cases hn : nameP r (a + 2) with
   | error k => rw [hn] at h; cases h
   | ok x =>
    obtain ⟨u, m⟩ := x
    rw [hn] at h
    simp only [Except.ok.injEq, Prod.mk.injEq] at h
    have := nameP_mono _ _ _ hn
    omega
  ·simp only [Except.ok.injEq, Prod.mk.injEq] at h; omega
 ·cases h
set_option maxRecDepth 100000 in
set_option maxHeartbeats 1000000 in
theorem param_any (r : Rdr) (i lv : Nat) (s : Bool) (w : World) (h : RdAt r i lv s w) (hE : EndAt r) :
  Calls Tryz.prog 83 #[.pointer (some ⟨r.b, 0, none⟩)] w (RulePost r (paramP r i) lv s w) := by
 have HRB : Hid (r.b < w.heap.size) := lt_heap h.cells
 have HR1 := Lib.hid (h.below (boxB w (.cells #[.int .i64 0, .string ⟨#[]⟩, .int .i64 0, .slice none 0 0] 37)))
 have HM1 := Lib.hid (Mv.of_below (r := r) (boxB w (.cells #[.int .i64 0, .string ⟨#[]⟩, .int .i64 0, .slice none 0 0] 37)))
 have HS1 := Lib.hid (ResAt.start w)
 generalize hX0 : paramP r i = X
 have HX0 := Lib.hid hX0
 have HE := Lib.hid hE
 clear hX0 h hE
 go_enter Tryz.func83, Tryz.ntmps83
 go_wp2_with fail
 generalize w.alloc (.cells #[.int .i64 0, .string ⟨#[]⟩, .int .i64 0, .slice none 0 0] 37) = w1 at *
 refine (here_any r i lv s w1 HR1.out).mono ?_
 rintro e w2 ⟨rfl, hb⟩
 have HR2 := Lib.hid (HR1.out.below hb)
 have HM2 := Lib.hid (HM1.out.trans (Mv.of_below (r := r) hb))
 have HS2 := Lib.hid (HS1.out.mv (Mv.of_below (r := r) hb) HRB.out)
 clear hb
 go_wp2_with fail
 by_cases hk : (r.L.getD i tok0).kind = 1
 ·have hi1 := HE.out i HR2.out.lt (.inl hk)
  have HK := Lib.hid hk
  clear hk
  refine (name_yes r i lv s w2 HR2.out HK.out hi1).mono ?_
  rintro e w3 ⟨rfl, hr3, hm3⟩
  have HR3 := Lib.hid hr3
  have HM3 := Lib.hid (HM2.out.trans hm3)
  have HS3 := Lib.hid (HS2.out.mv hm3 HRB.out)
  clear hr3 hm3
  clear hi1
  go_wp2_with fail
  by_cases hm : isMark r (i + 1) ⟨#[58]⟩ = true
  ·have hi2 := HE.out.mark HR3.out.lt hm (by decide)
   have HMK := Lib.hid hm
   clear hm
   refine (took_yes r (i + 1) lv s ⟨#[58]⟩ w3 HR3.out HMK.out (by decide) hi2).mono ?_
   rintro e w4 ⟨rfl, hr4, hm4⟩
   have HR4 := Lib.hid hr4
   have HM4 := Lib.hid (HM3.out.trans hm4)
   have HS4 := Lib.hid (HS3.out.mv hm4 HRB.out)
   clear hr4 hm4
   clear hi2
   go_wp2_with fail
   refine (nameNode_any r (i + 2) lv s w4 HR4.out HE.out).mono ?_
   intro e w5 hp
   match hl : nameP r (i + 2), hp with
   | .error k, hp =>
    have hX := HX0.out
    unfold paramP at hX
    rw [if_pos HK.out, if_pos HMK.out, hl] at hX
    clear HX0
    subst hX
    obtain ⟨rfl, hm5⟩ := hp
    have HM5 := Lib.hid (HM4.out.trans hm5)
    unfold stopAt
    go_wp2_with fail
    exact ⟨rfl, rfl, HM5.out⟩
   | .ok (t, j), hp =>
    have hX := HX0.out
    unfold paramP at hX
    rw [if_pos HK.out, if_pos HMK.out, hl] at hX
    clear HX0
    subst hX
    obtain ⟨q, rfl, ht, hr5, hm5⟩ := hp
    have hb6 := boxB w5 (.cells (ndC q) 37)
    have HN6 := Lib.hid ((Nodes.first ht hm5.size).list)
    have hm6 := hm5.trans (Mv.of_below (r := r) hb6)
    have HR6 := Lib.hid (hr5.below hb6)
    have HM6 := Lib.hid (HM4.out.trans hm6)
    have HS6 := Lib.hid (HS4.out.mv hm6 HRB.out)
    have hlt := lt_heap HS4.out.z
    obtain ⟨qk, qt, qa, qp, qn, qc⟩ := q
    unfold ndC at HN6 HR6 HM6 HS6 ⊢
    clear ht hr5 hm5 hp hb6 hm6
    go_wp2_with fail
    generalize w5.alloc (.cells #[.int .i64 qk, .string qt, .int .i64 qa, .slice qp qn qc] 37) = w6 at *
    refine (node_any 11 _ _ (some ⟨w5.heap.size, 0, none⟩) 1 1 w6).mono ?_
    rintro e w7 ⟨rfl, hb⟩
    have HR7 := Lib.hid (HR6.out.below hb)
    have HM7 := Lib.hid (HM6.out.trans (Mv.of_below (r := r) hb))
    have HS7 := Lib.hid (HS6.out.mv (Mv.of_below (r := r) hb) HRB.out)
    have HN7 := Lib.hid ((HN6.out.later hb).mono (A' := fun b => w.heap.size < b) (fun b hb => by omega))
    clear hb
    have HW := Lib.hid (res_world r j lv s w w7 ⟨11, (r.L.getD i tok0).text, (r.L.getD i tok0).at_, some ⟨w5.heap.size, 0, none⟩, 1, 1⟩ (.mk 11 (r.L.getD i tok0).text (r.L.getD i tok0).at_ [t]) HRB.out HM7.out HS7.out.z (IsT.node _ _ _ HN7.out) HR7.out)
    obtain ⟨d0, d1, d2, d3, f0⟩ := HS7.out.cells
    unfold ndC
    go_wp2_with fail
    obtain ⟨hcell, hist, hrd, hmv⟩ := HW.out
    simp only [List.getD_eq_getElem?_getD] at hcell hist hrd hmv ⊢
    exact bodyPost_ret (results_cellT rfl _ _ _ ⟨w.heap.size, 0, none⟩ _ rfl (load_node _ _ ⟨11, (r.L[i]?.getD tok0).text, (r.L[i]?.getD tok0).at_, some ⟨w5.heap.size, 0, none⟩, 1, 1⟩ hcell)) rfl ⟨_, rfl, hist, hrd, hmv⟩
  ·have hm' : isMark r (i + 1) ⟨#[58]⟩ = false := by simpa using hm
   have hX := HX0.out
   unfold paramP at hX
   rw [if_pos HK.out, if_neg hm] at hX
   clear HX0
   subst hX
   refine (took_no r (i + 1) lv s ⟨#[58]⟩ w3 HR3.out hm').mono ?_
   rintro e w4 ⟨rfl, hb⟩
   have HR4 := Lib.hid (HR3.out.below hb)
   have HM4 := Lib.hid (HM3.out.trans (Mv.of_below (r := r) hb))
   have HS4 := Lib.hid (HS3.out.mv (Mv.of_below (r := r) hb) HRB.out)
   clear hb
   clear hm hm'
   go_wp2_with fail
   refine (node_any 11 _ _ none 0 0 w4).mono ?_
   rintro e w5 ⟨rfl, hb⟩
   have HR5 := Lib.hid (HR4.out.below hb)
   have HM5 := Lib.hid (HM4.out.trans (Mv.of_below (r := r) hb))
   have HS5 := Lib.hid (HS4.out.mv (Mv.of_below (r := r) hb) HRB.out)
   clear hb
   have HW := Lib.hid (res_world r (i + 1) lv s w w5 ⟨11, (r.L.getD i tok0).text, (r.L.getD i tok0).at_, none, 0, 0⟩ (.mk 11 (r.L.getD i tok0).text (r.L.getD i tok0).at_ []) HRB.out HM5.out HS5.out.z (IsT.leaf _ _ _ _ _) HR5.out)
   obtain ⟨d0, d1, d2, d3, f0⟩ := HS5.out.cells
   unfold ndC
   go_wp2_with fail
   obtain ⟨hcell, hist, hrd, hmv⟩ := HW.out
   simp only [List.getD_eq_getElem?_getD] at hcell hist hrd hmv ⊢
   exact bodyPost_ret (results_cellT rfl _ _ _ ⟨w.heap.size, 0, none⟩ _ rfl (load_node _ _ ⟨11, (r.L[i]?.getD tok0).text, (r.L[i]?.getD tok0).at_, none, 0, 0⟩ hcell)) rfl ⟨_, rfl, hist, hrd, hmv⟩
 ·have hX := HX0.out
  unfold paramP at hX
  rw [if_neg hk] at hX
  clear HX0
  subst hX
  have HK := Lib.hid hk
  clear hk
  refine (name_no r i lv s w2 HR2.out HK.out).mono ?_
  rintro e w3 ⟨rfl, hb⟩
  have HM3 := Lib.hid (HM2.out.trans (Mv.of_below (r := r) hb))
  clear hb
  unfold stopAt
  go_wp2_with fail
  exact ⟨rfl, rfl, HM3.out⟩
set_option maxRecDepth 100000 in
set_option maxHeartbeats 1000000 in
theorem params_any (r : Rdr) (i lv : Nat) (s : Bool) (w : World) (h : RdAt r i lv s w) (hE : EndAt r) :
  Calls Tryz.prog 64 #[.pointer (some ⟨r.b, 0, none⟩)] w (RulePost r (paramsP r i) lv s w) := by
 have HRB : Hid (r.b < w.heap.size) := lt_heap h.cells
 have HR1 := Lib.hid (h.below (boxB w (.cells #[.int .i64 0, .string ⟨#[]⟩, .int .i64 0, .slice none 0 0] 37)))
 have HM1 := Lib.hid (Mv.of_below (r := r) (boxB w (.cells #[.int .i64 0, .string ⟨#[]⟩, .int .i64 0, .slice none 0 0] 37)))
 have HS1 := Lib.hid (ResAt.start w)
 generalize hX0 : paramsP r i = X
 have HX0 := Lib.hid hX0
 have HE := Lib.hid hE
 clear hX0 h hE
 go_enter Tryz.func64, Tryz.ntmps64
 go_wp2_with fail
 generalize w.alloc (.cells #[.int .i64 0, .string ⟨#[]⟩, .int .i64 0, .slice none 0 0] 37) = w1 at *
 refine (at_any r i lv s ⟨#[60]⟩ w1 HR1.out).mono ?_
 rintro e w2 ⟨rfl, hb⟩
 have HR2 := Lib.hid (HR1.out.below hb)
 have HM2 := Lib.hid (HM1.out.trans (Mv.of_below (r := r) hb))
 have HS2 := Lib.hid (HS1.out.mv (Mv.of_below (r := r) hb) HRB.out)
 clear hb
 by_cases hm : isMark r i ⟨#[60]⟩ = true
 ·rw [show ((r.L.getD i tok0).text.toList == (⟨#[60]⟩ : ByteArray).toList) = true from hm]
  have hi1 := HE.out.mark HR2.out.lt hm (by decide)
  have HMK := Lib.hid hm
  clear hm
  go_wp2_with fail
  refine (take_any r i lv s w2 HR2.out hi1).mono ?_
  rintro e w3 ⟨rfl, hr3, hm3⟩
  have HR3 := Lib.hid hr3
  have HM3 := Lib.hid (HM2.out.trans hm3)
  have HS3 := Lib.hid (HS2.out.mv hm3 HRB.out)
  clear hr3 hm3
  clear hi1
  unfold tkC
  go_wp2_with fail
  refine (list_any r (i + 1) lv s ⟨#[44]⟩ 83 (paramP r) w3 HR3.out HE.out (by decide) (fun args w => by kernel_rfl) paramP_mono (fun a w4 h4 => param_any r a lv s w4 h4 HE.out)).mono ?_
  intro e w4 hp
  match hl : listP r ⟨#[44]⟩ (paramP r) (r.L.length + 1) (i + 1), hp with
  | .error k, hp =>
   have hX := HX0.out
   unfold paramsP at hX
   rw [if_pos HMK.out, hl] at hX
   clear HX0
   subst hX
   obtain ⟨rfl, hm4⟩ := hp
   have HM4 := Lib.hid (HM3.out.trans hm4)
   unfold stopAt
   go_wp2_with fail
   exact ⟨rfl, rfl, HM4.out⟩
  | .ok (ts, j), hp =>
   obtain ⟨v, rfl, hn4, hr4, hm4⟩ := hp
   obtain ⟨p4, c4, hve, -, -⟩ := hn4.slice
   have hlt := lt_heap HS3.out.z
   have HN4 := Lib.hid (hn4.list.mono (A' := fun b => w.heap.size < b) (fun b hb => by omega))
   subst hve
   have HR4 := Lib.hid hr4
   have HM4 := Lib.hid (HM3.out.trans hm4)
   have HS4 := Lib.hid (HS3.out.mv hm4 HRB.out)
   clear hn4 hr4 hm4 hp
   go_wp2_with fail
   by_cases hg : isMark r j ⟨#[62]⟩ = true
   ·have hX := HX0.out
    unfold paramsP at hX
    rw [if_pos HMK.out, hl] at hX
    simp only at hX
    rw [if_pos hg] at hX
    clear HX0
    subst hX
    have hj1 := HE.out.mark HR4.out.lt hg (by decide)
    refine (need_yes r j lv s ⟨#[62]⟩ w4 HR4.out hg (by decide) hj1).mono ?_
    rintro e w5 ⟨rfl, hr5, hm5⟩
    have HR5 := Lib.hid hr5
    have HM5 := Lib.hid (HM4.out.trans hm5)
    have HS5 := Lib.hid (HS4.out.mv hm5 HRB.out)
    have HN5 := Lib.hid (HN4.out.but (M := fun a => a.block = r.b) hm5 (fun a e q => by rw [e] at q; have := HRB.out; omega))
    clear hr5 hm5 hg hj1
    go_wp2_with fail
    refine (node_any 10 _ _ p4 ts.length c4 w5).mono ?_
    rintro e w6 ⟨rfl, hb⟩
    have HR6 := Lib.hid (HR5.out.below hb)
    have HM6 := Lib.hid (HM5.out.trans (Mv.of_below (r := r) hb))
    have HS6 := Lib.hid (HS5.out.mv (Mv.of_below (r := r) hb) HRB.out)
    have HN6 := Lib.hid (HN5.out.later hb)
    clear hb
    have HW := Lib.hid (res_world r (j + 1) lv s w w6 ⟨10, ⟨#[]⟩, (r.L.getD i tok0).at_, p4, ts.length, c4⟩ (.mk 10 ⟨#[]⟩ (r.L.getD i tok0).at_ ts) HRB.out HM6.out HS6.out.z (IsT.node _ _ _ HN6.out) HR6.out)
    obtain ⟨d0, d1, d2, d3, f0⟩ := HS6.out.cells
    unfold ndC
    go_wp2_with fail
    obtain ⟨hcell, hist, hrd, hmv⟩ := HW.out
    simp only [List.getD_eq_getElem?_getD] at hcell hist hrd hmv ⊢
    exact bodyPost_ret (results_cellT rfl _ _ _ ⟨w.heap.size, 0, none⟩ _ rfl (load_node _ _ ⟨10, ⟨#[]⟩, (r.L[i]?.getD tok0).at_, p4, ts.length, c4⟩ hcell)) rfl ⟨_, rfl, hist, hrd, hmv⟩
   ·have hg' : isMark r j ⟨#[62]⟩ = false := by simpa using hg
    have hX := HX0.out
    unfold paramsP at hX
    rw [if_pos HMK.out, hl] at hX
    simp only at hX
    rw [if_neg hg] at hX
    clear HX0
    subst hX
    refine (need_no r j lv s ⟨#[62]⟩ w4 HR4.out hg').mono ?_
    rintro e w5 ⟨rfl, hb⟩
    have HM5 := Lib.hid (HM4.out.trans (Mv.of_below (r := r) hb))
    clear hb
    unfold stopAt
    go_wp2_with fail
    exact ⟨rfl, rfl, HM5.out⟩
 ·have hm' : isMark r i ⟨#[60]⟩ = false := by simpa using hm
  rw [show ((r.L.getD i tok0).text.toList == (⟨#[60]⟩ : ByteArray).toList) = false from hm']
  have hX := HX0.out
  unfold paramsP at hX
  rw [if_neg hm] at hX
  clear HX0 hm hm'
  go_wp2_with fail
  refine (noParams_any r i lv s w2 HR2.out).mono ?_
  rw [hX]
  intro e w3 hp
  clear hX
  match X, hp with
  | .error k, hp =>
   obtain ⟨rfl, hm3⟩ := hp
   have HM3 := Lib.hid (HM2.out.trans hm3)
   unfold stopAt
   go_wp2_with fail
   exact ⟨rfl, rfl, HM3.out⟩
  | .ok (t, j), hp =>
   obtain ⟨q, rfl, ht, hr3, hm3⟩ := hp
   have HS3 := Lib.hid (HS2.out.mv hm3 HRB.out)
   have hlt := lt_heap HS2.out.z
   have HW := Lib.hid (res_world r j lv s w w3 q t HRB.out (HM2.out.trans hm3) HS3.out.z (ht.mono (fun b hb => by omega)) hr3)
   obtain ⟨d0, d1, d2, d3, f0⟩ := HS3.out.cells
   obtain ⟨qk, qt, qa, qp, qn, qc⟩ := q
   unfold ndC
   clear ht hr3 hm3 hp
   go_wp2_with fail
   obtain ⟨hcell, hist, hrd, hmv⟩ := HW.out
   exact bodyPost_ret (results_cellT rfl _ _ _ ⟨w.heap.size, 0, none⟩ _ rfl (load_node _ _ ⟨qk, qt, qa, qp, qn, qc⟩ hcell)) rfl ⟨_, rfl, hist, hrd, hmv⟩
end Go.Proofs.YtheigpiffdabnaaGreat
namespace Go.Proofs.YtheigpiffdabnaaGreat
open Go Go.RowKit
/-- the traits behind a colon, or none -/
def supersP (r : Rdr) (i : Nat) : Except Nat (Tree × Nat) :=
 if isMark r i ⟨#[58]⟩ = true then (match listP r ⟨#[43]⟩ (nameP r) (r.L.length + 1) (i + 1) with | .error k => .error k | .ok (ts, j) => .ok (.mk 14 ⟨#[]⟩ (r.L.getD (i + 1) tok0).at_ ts, j)) else .ok (.mk 14 ⟨#[]⟩ (r.L.getD i tok0).at_ [], i)
set_option maxRecDepth 100000 in
set_option maxHeartbeats 1000000 in
theorem supers_any (r : Rdr) (i lv : Nat) (s : Bool) (w : World) (h : RdAt r i lv s w) (hE : EndAt r) :
  Calls Tryz.prog 67 #[.pointer (some ⟨r.b, 0, none⟩)] w (RulePost r (supersP r i) lv s w) := by
 have HRB : Hid (r.b < w.heap.size) := lt_heap h.cells
 have HR1 := Lib.hid (h.below (boxB w (.cells #[.int .i64 0, .string ⟨#[]⟩, .int .i64 0, .slice none 0 0] 37)))
 have HM1 := Lib.hid (Mv.of_below (r := r) (boxB w (.cells #[.int .i64 0, .string ⟨#[]⟩, .int .i64 0, .slice none 0 0] 37)))
 have HS1 := Lib.hid (ResAt.start w)
 generalize hX0 : supersP r i = X
 have HX0 := Lib.hid hX0
 have HE := Lib.hid hE
 clear hX0 h hE
 go_enter Tryz.func67, Tryz.ntmps67
 go_wp2_with fail
 generalize w.alloc (.cells #[.int .i64 0, .string ⟨#[]⟩, .int .i64 0, .slice none 0 0] 37) = w1 at *
 by_cases hm : isMark r i ⟨#[58]⟩ = true
 ·have hi1 := HE.out.mark HR1.out.lt hm (by decide)
  have HMK := Lib.hid hm
  clear hm
  refine (took_yes r i lv s ⟨#[58]⟩ w1 HR1.out HMK.out (by decide) hi1).mono ?_
  rintro e w2 ⟨rfl, hr2, hm2⟩
  have HR2 := Lib.hid hr2
  have HM2 := Lib.hid (HM1.out.trans hm2)
  have HS2 := Lib.hid (HS1.out.mv hm2 HRB.out)
  clear hr2 hm2
  clear hi1
  go_wp2_with fail
  refine (here_any r (i + 1) lv s w2 HR2.out).mono ?_
  rintro e w3 ⟨rfl, hb⟩
  have HR3 := Lib.hid (HR2.out.below hb)
  have HM3 := Lib.hid (HM2.out.trans (Mv.of_below (r := r) hb))
  have HS3 := Lib.hid (HS2.out.mv (Mv.of_below (r := r) hb) HRB.out)
  clear hb
  go_wp2_with fail
  refine (list_any r (i + 1) lv s ⟨#[43]⟩ 71 (nameP r) w3 HR3.out HE.out (by decide) (fun args w => by kernel_rfl) nameP_mono (fun a w4 h4 => nameNode_any r a lv s w4 h4 HE.out)).mono ?_
  intro e w4 hp
  match hl : listP r ⟨#[43]⟩ (nameP r) (r.L.length + 1) (i + 1), hp with
  | .error k, hp =>
   have hX := HX0.out
   unfold supersP at hX
   rw [if_pos HMK.out, hl] at hX
   clear HX0
   subst hX
   obtain ⟨rfl, hm4⟩ := hp
   have HM4 := Lib.hid (HM3.out.trans hm4)
   unfold stopAt
   go_wp2_with fail
   exact ⟨rfl, rfl, HM4.out⟩
  | .ok (ts, j), hp =>
   have hX := HX0.out
   unfold supersP at hX
   rw [if_pos HMK.out, hl] at hX
   clear HX0
   subst hX
   obtain ⟨v, rfl, hn4, hr4, hm4⟩ := hp
   obtain ⟨p4, c4, hve, -, -⟩ := hn4.slice
   have hlt := lt_heap HS3.out.z
   have HN4 := Lib.hid (hn4.list.mono (A' := fun b => w.heap.size < b) (fun b hb => by omega))
   subst hve
   have HR4 := Lib.hid hr4
   have HM4 := Lib.hid (HM3.out.trans hm4)
   have HS4 := Lib.hid (HS3.out.mv hm4 HRB.out)
   clear hn4 hr4 hm4 hp
   go_wp2_with fail
   refine (node_any 14 _ _ p4 ts.length c4 w4).mono ?_
   rintro e w5 ⟨rfl, hb⟩
   have HR5 := Lib.hid (HR4.out.below hb)
   have HM5 := Lib.hid (HM4.out.trans (Mv.of_below (r := r) hb))
   have HS5 := Lib.hid (HS4.out.mv (Mv.of_below (r := r) hb) HRB.out)
   have HN5 := Lib.hid (HN4.out.later hb)
   clear hb
   have HW := Lib.hid (res_world r j lv s w w5 ⟨14, ⟨#[]⟩, (r.L.getD (i + 1) tok0).at_, p4, ts.length, c4⟩ (.mk 14 ⟨#[]⟩ (r.L.getD (i + 1) tok0).at_ ts) HRB.out HM5.out HS5.out.z (IsT.node _ _ _ HN5.out) HR5.out)
   obtain ⟨d0, d1, d2, d3, f0⟩ := HS5.out.cells
   unfold ndC
   go_wp2_with fail
   obtain ⟨hcell, hist, hrd, hmv⟩ := HW.out
   simp only [List.getD_eq_getElem?_getD] at hcell hist hrd hmv ⊢
   exact bodyPost_ret (results_cellT rfl _ _ _ ⟨w.heap.size, 0, none⟩ _ rfl (load_node _ _ ⟨14, ⟨#[]⟩, (r.L[i + 1]?.getD tok0).at_, p4, ts.length, c4⟩ hcell)) rfl ⟨_, rfl, hist, hrd, hmv⟩
 ·have hm' : isMark r i ⟨#[58]⟩ = false := by simpa using hm
  have hX := HX0.out
  unfold supersP at hX
  rw [if_neg hm] at hX
  clear HX0
  subst hX
  refine (took_no r i lv s ⟨#[58]⟩ w1 HR1.out hm').mono ?_
  rintro e w2 ⟨rfl, hb⟩
  have HR2 := Lib.hid (HR1.out.below hb)
  have HM2 := Lib.hid (HM1.out.trans (Mv.of_below (r := r) hb))
  have HS2 := Lib.hid (HS1.out.mv (Mv.of_below (r := r) hb) HRB.out)
  clear hb
  clear hm hm'
  go_wp2_with fail
  refine (here_any r i lv s w2 HR2.out).mono ?_
  rintro e w3 ⟨rfl, hb⟩
  have HR3 := Lib.hid (HR2.out.below hb)
  have HM3 := Lib.hid (HM2.out.trans (Mv.of_below (r := r) hb))
  have HS3 := Lib.hid (HS2.out.mv (Mv.of_below (r := r) hb) HRB.out)
  clear hb
  go_wp2_with fail
  refine (node_any 14 _ _ none 0 0 w3).mono ?_
  rintro e w4 ⟨rfl, hb⟩
  have HR4 := Lib.hid (HR3.out.below hb)
  have HM4 := Lib.hid (HM3.out.trans (Mv.of_below (r := r) hb))
  have HS4 := Lib.hid (HS3.out.mv (Mv.of_below (r := r) hb) HRB.out)
  clear hb
  have HW := Lib.hid (res_world r i lv s w w4 ⟨14, ⟨#[]⟩, (r.L.getD i tok0).at_, none, 0, 0⟩ (.mk 14 ⟨#[]⟩ (r.L.getD i tok0).at_ []) HRB.out HM4.out HS4.out.z (IsT.leaf _ _ _ _ _) HR4.out)
  obtain ⟨d0, d1, d2, d3, f0⟩ := HS4.out.cells
  unfold ndC
  go_wp2_with fail
  obtain ⟨hcell, hist, hrd, hmv⟩ := HW.out
  simp only [List.getD_eq_getElem?_getD] at hcell hist hrd hmv ⊢
  exact bodyPost_ret (results_cellT rfl _ _ _ ⟨w.heap.size, 0, none⟩ _ rfl (load_node _ _ ⟨14, ⟨#[]⟩, (r.L[i]?.getD tok0).at_, none, 0, 0⟩ hcell)) rfl ⟨_, rfl, hist, hrd, hmv⟩
end Go.Proofs.YtheigpiffdabnaaGreat
namespace Go.Proofs.YtheigpiffdabnaaGreat
open Go Go.RowKit
/-- what both kinds of uses have -/
def usedP (r : Rdr) (kd at_ : Int) (i : Nat) : Except Nat (Tree × Nat) :=
 if isMark r i ⟨#[117, 115, 101]⟩ = true then
  (if (r.L.getD (i + 1) tok0).kind = 1 then
   (if isMark r (i + 2) ⟨#[59]⟩ = true then .ok (.mk kd (r.L.getD (i + 1) tok0).text at_ [], i + 3) else .error (i + 2))
   else .error (i + 1))
 else .error i
def useP (r : Rdr) (i : Nat) : Except Nat (Tree × Nat) := usedP r 1 (r.L.getD i tok0).at_ i
def pubUseP (r : Rdr) (i : Nat) : Except Nat (Tree × Nat) := if isMark r i ⟨#[112, 117, 98]⟩ = true then usedP r 2 (r.L.getD i tok0).at_ (i + 1) else .error i
set_option maxRecDepth 100000 in
set_option maxHeartbeats 1000000 in
theorem used_any (r : Rdr) (i lv : Nat) (s : Bool) (kd at_ : Int) (w : World) (h : RdAt r i lv s w) (hE : EndAt r) :
  Calls Tryz.prog 56 #[.pointer (some ⟨r.b, 0, none⟩), .int .i64 kd, .int .i64 at_] w (RulePost r (usedP r kd at_ i) lv s w) := by
 have HRB : Hid (r.b < w.heap.size) := lt_heap h.cells
 have HR1 := Lib.hid (h.below (boxB w (.cells #[.int .i64 0, .string ⟨#[]⟩, .int .i64 0, .slice none 0 0] 37)))
 have HM1 := Lib.hid (Mv.of_below (r := r) (boxB w (.cells #[.int .i64 0, .string ⟨#[]⟩, .int .i64 0, .slice none 0 0] 37)))
 have HS1 := Lib.hid (ResAt.start w)
 generalize hX0 : usedP r kd at_ i = X
 have HX0 := Lib.hid hX0
 have HE := Lib.hid hE
 clear hX0 h hE
 go_enter Tryz.func56, Tryz.ntmps56
 go_wp2_with fail
 generalize w.alloc (.cells #[.int .i64 0, .string ⟨#[]⟩, .int .i64 0, .slice none 0 0] 37) = w1 at *
 by_cases hm : isMark r i ⟨#[117, 115, 101]⟩ = true
 ·have hi1 := HE.out.mark HR1.out.lt hm (by decide)
  have HMK := Lib.hid hm
  clear hm
  refine (need_yes r i lv s ⟨#[117, 115, 101]⟩ w1 HR1.out HMK.out (by decide) hi1).mono ?_
  rintro e w2 ⟨rfl, hr2, hm2⟩
  have HR2 := Lib.hid hr2
  have HM2 := Lib.hid (HM1.out.trans hm2)
  have HS2 := Lib.hid (HS1.out.mv hm2 HRB.out)
  clear hr2 hm2
  clear hi1
  go_wp2_with fail
  by_cases hk : (r.L.getD (i + 1) tok0).kind = 1
  ·have hi2 := HE.out (i + 1) HR2.out.lt (.inl hk)
   have HK := Lib.hid hk
   clear hk
   refine (name_yes r (i + 1) lv s w2 HR2.out HK.out hi2).mono ?_
   rintro e w3 ⟨rfl, hr3, hm3⟩
   have HR3 := Lib.hid hr3
   have HM3 := Lib.hid (HM2.out.trans hm3)
   have HS3 := Lib.hid (HS2.out.mv hm3 HRB.out)
   clear hr3 hm3
   clear hi2
   go_wp2_with fail
   by_cases hg : isMark r (i + 2) ⟨#[59]⟩ = true
   ·have hi3 := HE.out.mark HR3.out.lt hg (by decide)
    have HG := Lib.hid hg
    clear hg
    refine (need_yes r (i + 2) lv s ⟨#[59]⟩ w3 HR3.out HG.out (by decide) hi3).mono ?_
    rintro e w4 ⟨rfl, hr4, hm4⟩
    have HR4 := Lib.hid hr4
    have HM4 := Lib.hid (HM3.out.trans hm4)
    have HS4 := Lib.hid (HS3.out.mv hm4 HRB.out)
    clear hr4 hm4
    clear hi3
    have hX := HX0.out
    unfold usedP at hX
    rw [if_pos HMK.out, if_pos HK.out, if_pos HG.out] at hX
    clear HX0
    subst hX
    go_wp2_with fail
    refine (node_any kd _ at_ none 0 0 w4).mono ?_
    rintro e w5 ⟨rfl, hb⟩
    have HR5 := Lib.hid (HR4.out.below hb)
    have HM5 := Lib.hid (HM4.out.trans (Mv.of_below (r := r) hb))
    have HS5 := Lib.hid (HS4.out.mv (Mv.of_below (r := r) hb) HRB.out)
    clear hb
    have HW := Lib.hid (res_world r (i + 3) lv s w w5 ⟨kd, (r.L.getD (i + 1) tok0).text, at_, none, 0, 0⟩ (.mk kd (r.L.getD (i + 1) tok0).text at_ []) HRB.out HM5.out HS5.out.z (IsT.leaf _ _ _ _ _) HR5.out)
    obtain ⟨d0, d1, d2, d3, f0⟩ := HS5.out.cells
    unfold ndC
    go_wp2_with fail
    obtain ⟨hcell, hist, hrd, hmv⟩ := HW.out
    simp only [List.getD_eq_getElem?_getD] at hcell hist hrd hmv ⊢
    exact bodyPost_ret (results_cellT rfl _ _ _ ⟨w.heap.size, 0, none⟩ _ rfl (load_node _ _ ⟨kd, (r.L[i + 1]?.getD tok0).text, at_, none, 0, 0⟩ hcell)) rfl ⟨_, rfl, hist, hrd, hmv⟩
   ·have hg' : isMark r (i + 2) ⟨#[59]⟩ = false := by simpa using hg
    have hX := HX0.out
    unfold usedP at hX
    rw [if_pos HMK.out, if_pos HK.out, if_neg hg] at hX
    clear HX0
    subst hX
    refine (need_no r (i + 2) lv s ⟨#[59]⟩ w3 HR3.out hg').mono ?_
    rintro e w4 ⟨rfl, hb⟩
    have HM4 := Lib.hid (HM3.out.trans (Mv.of_below (r := r) hb))
    clear hb
    unfold stopAt
    go_wp2_with fail
    exact ⟨rfl, rfl, HM4.out⟩
  ·have HK := Lib.hid hk
   have hX := HX0.out
   unfold usedP at hX
   rw [if_pos HMK.out, if_neg hk] at hX
   clear HX0
   subst hX
   clear hk
   refine (name_no r (i + 1) lv s w2 HR2.out HK.out).mono ?_
   rintro e w3 ⟨rfl, hb⟩
   have HM3 := Lib.hid (HM2.out.trans (Mv.of_below (r := r) hb))
   clear hb
   unfold stopAt
   go_wp2_with fail
   exact ⟨rfl, rfl, HM3.out⟩
 ·have hm' : isMark r i ⟨#[117, 115, 101]⟩ = false := by simpa using hm
  have hX := HX0.out
  unfold usedP at hX
  rw [if_neg hm] at hX
  clear HX0
  subst hX
  refine (need_no r i lv s ⟨#[117, 115, 101]⟩ w1 HR1.out hm').mono ?_
  rintro e w2 ⟨rfl, hb⟩
  have HM2 := Lib.hid (HM1.out.trans (Mv.of_below (r := r) hb))
  clear hb
  unfold stopAt
  go_wp2_with fail
  exact ⟨rfl, rfl, HM2.out⟩
set_option maxRecDepth 100000 in
set_option maxHeartbeats 1000000 in
theorem use_any (r : Rdr) (i lv : Nat) (s : Bool) (w : World) (h : RdAt r i lv s w) (hE : EndAt r) :
  Calls Tryz.prog 40 #[.pointer (some ⟨r.b, 0, none⟩)] w (RulePost r (useP r i) lv s w) := by
 have HRB : Hid (r.b < w.heap.size) := lt_heap h.cells
 have HR1 := Lib.hid (h.below (boxB w (.cells #[.int .i64 0, .string ⟨#[]⟩, .int .i64 0, .slice none 0 0] 37)))
 have HM1 := Lib.hid (Mv.of_below (r := r) (boxB w (.cells #[.int .i64 0, .string ⟨#[]⟩, .int .i64 0, .slice none 0 0] 37)))
 have HS1 := Lib.hid (ResAt.start w)
 have HE := Lib.hid hE
 clear h hE
 unfold useP
 go_enter Tryz.func40, Tryz.ntmps40
 go_wp2_with fail
 generalize w.alloc (.cells #[.int .i64 0, .string ⟨#[]⟩, .int .i64 0, .slice none 0 0] 37) = w1 at *
 refine (here_any r i lv s w1 HR1.out).mono ?_
 rintro e w2 ⟨rfl, hb⟩
 have HR2 := Lib.hid (HR1.out.below hb)
 have HM2 := Lib.hid (HM1.out.trans (Mv.of_below (r := r) hb))
 have HS2 := Lib.hid (HS1.out.mv (Mv.of_below (r := r) hb) HRB.out)
 clear hb
 have HU := Lib.hid (used_any r i lv s 1 (r.L.getD i tok0).at_ w2 HR2.out HE.out)
 generalize usedP r 1 (r.L.getD i tok0).at_ i = X at *
 go_wp2_with fail
 refine HU.out.mono ?_
 intro e w3 hp
 match X, hp with
 | .error k, hp =>
  obtain ⟨rfl, hm3⟩ := hp
  have HM3 := Lib.hid (HM2.out.trans hm3)
  unfold stopAt
  go_wp2_with fail
  exact ⟨rfl, rfl, HM3.out⟩
 | .ok (t, j), hp =>
  obtain ⟨q, rfl, ht, hr3, hm3⟩ := hp
  have HS3 := Lib.hid (HS2.out.mv hm3 HRB.out)
  have hlt := lt_heap HS2.out.z
  have HW := Lib.hid (res_world r j lv s w w3 q t HRB.out (HM2.out.trans hm3) HS3.out.z (ht.mono (fun b hb => by omega)) hr3)
  obtain ⟨d0, d1, d2, d3, f0⟩ := HS3.out.cells
  obtain ⟨qk, qt, qa, qp, qn, qc⟩ := q
  unfold ndC
  clear ht hr3 hm3 hp
  go_wp2_with fail
  obtain ⟨hcell, hist, hrd, hmv⟩ := HW.out
  exact bodyPost_ret (results_cellT rfl _ _ _ ⟨w.heap.size, 0, none⟩ _ rfl (load_node _ _ ⟨qk, qt, qa, qp, qn, qc⟩ hcell)) rfl ⟨_, rfl, hist, hrd, hmv⟩
set_option maxRecDepth 100000 in
set_option maxHeartbeats 1000000 in
theorem pubUse_any (r : Rdr) (i lv : Nat) (s : Bool) (w : World) (h : RdAt r i lv s w) (hE : EndAt r) :
  Calls Tryz.prog 41 #[.pointer (some ⟨r.b, 0, none⟩)] w (RulePost r (pubUseP r i) lv s w) := by
 have HRB : Hid (r.b < w.heap.size) := lt_heap h.cells
 have HR1 := Lib.hid (h.below (boxB w (.cells #[.int .i64 0, .string ⟨#[]⟩, .int .i64 0, .slice none 0 0] 37)))
 have HM1 := Lib.hid (Mv.of_below (r := r) (boxB w (.cells #[.int .i64 0, .string ⟨#[]⟩, .int .i64 0, .slice none 0 0] 37)))
 have HS1 := Lib.hid (ResAt.start w)
 generalize hX0 : pubUseP r i = X
 have HX0 := Lib.hid hX0
 have HE := Lib.hid hE
 clear hX0 h hE
 go_enter Tryz.func41, Tryz.ntmps41
 go_wp2_with fail
 generalize w.alloc (.cells #[.int .i64 0, .string ⟨#[]⟩, .int .i64 0, .slice none 0 0] 37) = w1 at *
 refine (here_any r i lv s w1 HR1.out).mono ?_
 rintro e w2 ⟨rfl, hb⟩
 have HR2 := Lib.hid (HR1.out.below hb)
 have HM2 := Lib.hid (HM1.out.trans (Mv.of_below (r := r) hb))
 have HS2 := Lib.hid (HS1.out.mv (Mv.of_below (r := r) hb) HRB.out)
 clear hb
 go_wp2_with fail
 by_cases hm : isMark r i ⟨#[112, 117, 98]⟩ = true
 ·have hi1 := HE.out.mark HR2.out.lt hm (by decide)
  have HMK := Lib.hid hm
  clear hm
  refine (need_yes r i lv s ⟨#[112, 117, 98]⟩ w2 HR2.out HMK.out (by decide) hi1).mono ?_
  rintro e w3 ⟨rfl, hr3, hm3⟩
  have HR3 := Lib.hid hr3
  have HM3 := Lib.hid (HM2.out.trans hm3)
  have HS3 := Lib.hid (HS2.out.mv hm3 HRB.out)
  clear hr3 hm3
  clear hi1
  have hX := HX0.out
  unfold pubUseP at hX
  rw [if_pos HMK.out] at hX
  clear HX0
  have HU := Lib.hid (used_any r (i + 1) lv s 2 (r.L.getD i tok0).at_ w3 HR3.out HE.out)
  rw [hX] at HU
  clear hX
  go_wp2_with fail
  refine HU.out.mono ?_
  intro e w4 hp
  match X, hp with
  | .error k, hp =>
   obtain ⟨rfl, hm4⟩ := hp
   have HM4 := Lib.hid (HM3.out.trans hm4)
   unfold stopAt
   go_wp2_with fail
   exact ⟨rfl, rfl, HM4.out⟩
  | .ok (t, j), hp =>
   obtain ⟨q, rfl, ht, hr4, hm4⟩ := hp
   have HS4 := Lib.hid (HS3.out.mv hm4 HRB.out)
   have hlt := lt_heap HS3.out.z
   have HW := Lib.hid (res_world r j lv s w w4 q t HRB.out (HM3.out.trans hm4) HS4.out.z (ht.mono (fun b hb => by omega)) hr4)
   obtain ⟨d0, d1, d2, d3, f0⟩ := HS4.out.cells
   obtain ⟨qk, qt, qa, qp, qn, qc⟩ := q
   unfold ndC
   clear ht hr4 hm4 hp
   go_wp2_with fail
   obtain ⟨hcell, hist, hrd, hmv⟩ := HW.out
   exact bodyPost_ret (results_cellT rfl _ _ _ ⟨w.heap.size, 0, none⟩ _ rfl (load_node _ _ ⟨qk, qt, qa, qp, qn, qc⟩ hcell)) rfl ⟨_, rfl, hist, hrd, hmv⟩
 ·have hm' : isMark r i ⟨#[112, 117, 98]⟩ = false := by simpa using hm
  have hX := HX0.out
  unfold pubUseP at hX
  rw [if_neg hm] at hX
  clear HX0
  subst hX
  refine (need_no r i lv s ⟨#[112, 117, 98]⟩ w2 HR2.out hm').mono ?_
  rintro e w3 ⟨rfl, hb⟩
  have HM3 := Lib.hid (HM2.out.trans (Mv.of_below (r := r) hb))
  clear hb
  unfold stopAt
  go_wp2_with fail
  exact ⟨rfl, rfl, HM3.out⟩
end Go.Proofs.YtheigpiffdabnaaGreat
namespace Go.Proofs.YtheigpiffdabnaaGreat
open Go Go.RowKit
/-- a plain reader: from the index of a token to a value and the index behind it, or the index of the token with which nothing goes on -/
abbrev PM (α : Type) := Nat → Except Nat (α × Nat)
def bindM {α β : Type} (p : PM α) (f : α → PM β) : PM β := fun i => match p i with | .error k => .error k | .ok (x, j) => f x j
def pureM {α : Type} (x : α) : PM α := fun i => .ok (x, i)
theorem bindM_err {α β : Type} {p : PM α} {f : α → PM β} {i k : Nat} {X : Except Nat (β × Nat)} (hp : p i = .error k) (h : bindM p f i = X) : X = .error k := by
 rw [← h]; unfold bindM; rw [hp]
theorem bindM_ok {α β : Type} {p : PM α} {f : α → PM β} {i j : Nat} {x : α} {X : Except Nat (β × Nat)} (hp : p i = .ok (x, j)) (h : bindM p f i = X) : f x j = X := by
 rw [← h]; unfold bindM; rw [hp]
/-- it never goes back -/
def Up {α : Type} (p : PM α) : Prop := ∀ i x j, p i = .ok (x, j) → i ≤ j
/-- it goes on -/
def UpS {α : Type} (p : PM α) : Prop := ∀ i x j, p i = .ok (x, j) → i < j
theorem UpS.up {α : Type} {p : PM α} (h : UpS p) : Up p := fun i x j e => Nat.le_of_lt (h i x j e)
theorem up_pure {α : Type} (x : α) : Up (pureM x) := fun i y j e => by
 unfold pureM at e
 simp only [Except.ok.injEq, Prod.mk.injEq] at e
 omega
theorem bindM_split {α β : Type} {p : PM α} {f : α → PM β} {i m : Nat} {y : β} (h : bindM p f i = .ok (y, m)) : ∃ x j, p i = .ok (x, j) ∧ f x j = .ok (y, m) := by
 unfold bindM at h
 cases hp : p i with
 | error k => rw [hp] at h; cases h
 | ok z => obtain ⟨x, j⟩ := z; rw [hp] at h; exact ⟨x, j, rfl, h⟩
theorem up_bind {α β : Type} {p : PM α} {f : α → PM β} (hp : Up p) (hf : ∀ x, Up (f x)) : Up (bindM p f) := fun i y m h => by
 obtain ⟨x, j, h1, h2⟩ := bindM_split h
 exact Nat.le_trans (hp i x j h1) (hf x j y m h2)
theorem ups_bind {α β : Type} {p : PM α} {f : α → PM β} (hp : UpS p) (hf : ∀ x, Up (f x)) : UpS (bindM p f) := fun i y m h => by
 obtain ⟨x, j, h1, h2⟩ := bindM_split h
 exact Nat.lt_of_lt_of_le (hp i x j h1) (hf x j y m h2)
theorem ups_bind2 {α β : Type} {p : PM α} {f : α → PM β} (hp : Up p) (hf : ∀ x, UpS (f x)) : UpS (bindM p f) := fun i y m h => by
 obtain ⟨x, j, h1, h2⟩ := bindM_split h
 exact Nat.lt_of_le_of_lt (hp i x j h1) (hf x j y m h2)
def tokM (r : Rdr) : PM Lx.Tok := fun i => .ok (r.L.getD i tok0, i)
def hereM (r : Rdr) : PM Int := fun i => .ok ((r.L.getD i tok0).at_, i)
def takeM (r : Rdr) : PM Lx.Tok := fun i => .ok (r.L.getD i tok0, i + 1)
def isM (r : Rdr) (sg : ByteArray) : PM Bool := fun i => .ok (isMark r i sg, i)
def tookM (r : Rdr) (sg : ByteArray) : PM Bool := fun i => if isMark r i sg = true then .ok (true, i + 1) else .ok (false, i)
def needM (r : Rdr) (sg : ByteArray) : PM Unit := fun i => if isMark r i sg = true then .ok ((), i + 1) else .error i
def nameM (r : Rdr) : PM ByteArray := fun i => if (r.L.getD i tok0).kind = 1 then .ok ((r.L.getD i tok0).text, i + 1) else .error i
def signM (r : Rdr) (V : List ByteArray) : PM ByteArray := fun i => if hit (r.L.getD i tok0).text V = true then .ok ((r.L.getD i tok0).text, i + 1) else .ok (⟨#[]⟩, i)
def failM {α : Type} : PM α := fun i => .error i
def ndM (k : Int) (t : ByteArray) (a : Int) (l : List Tree) : PM Tree := pureM (.mk k t a l)
theorem up_tok (r : Rdr) : Up (tokM r) := fun i x j e => by unfold tokM at e; simp only [Except.ok.injEq, Prod.mk.injEq] at e; omega
theorem up_here (r : Rdr) : Up (hereM r) := fun i x j e => by unfold hereM at e; simp only [Except.ok.injEq, Prod.mk.injEq] at e; omega
theorem ups_take (r : Rdr) : UpS (takeM r) := fun i x j e => by unfold takeM at e; simp only [Except.ok.injEq, Prod.mk.injEq] at e; omega
theorem up_is (r : Rdr) (sg : ByteArray) : Up (isM r sg) := fun i x j e => by unfold isM at e; simp only [Except.ok.injEq, Prod.mk.injEq] at e; omega
theorem up_took (r : Rdr) (sg : ByteArray) : Up (tookM r sg) := fun i x j e => by
 unfold tookM at e
 split at e <;> (simp only [Except.ok.injEq, Prod.mk.injEq] at e; omega)
theorem ups_need (r : Rdr) (sg : ByteArray) : UpS (needM r sg) := fun i x j e => by
 unfold needM at e
 split at e
 ·simp only [Except.ok.injEq, Prod.mk.injEq] at e; omega
 ·cases e
theorem ups_name (r : Rdr) : UpS (nameM r) := fun i x j e => by
 unfold nameM at e
 split at e
 ·simp only [Except.ok.injEq, Prod.mk.injEq] at e; omega
 ·cases e
theorem up_sign (r : Rdr) (V : List ByteArray) : Up (signM r V) := fun i x j e => by
 unfold signM at e
 split at e <;> (simp only [Except.ok.injEq, Prod.mk.injEq] at e; omega)
theorem ups_fail {α : Type} : UpS (failM : PM α) := fun i x j e => by unfold failM at e; cases e
theorem up_nd (k : Int) (t : ByteArray) (a : Int) (l : List Tree) : Up (ndM k t a l) := up_pure _
/-- a mark's test as the walk needs it -/
theorem hit_size {t : ByteArray} {V : List ByteArray} (h : hit t V = true) (hV : ∀ v ∈ V, v.size ≠ 0) : t.size ≠ 0 := by
 unfold hit at h
 obtain ⟨v, hv, e⟩ := List.any_eq_true.1 h
 rw [beq_iff_eq] at e
 have h1 := hV v hv
 rw [ByteArray.toList_eq, ByteArray.toList_eq] at e
 intro h0
 apply h1
 have h2 := congrArg List.length e
 have h3 : t.data.size = t.size := rfl
 have h4 : v.data.size = v.size := rfl
 simp only [Array.length_toList] at h2
 omega
theorem here_x (r : Rdr) (i lv : Nat) (s : Bool) (w : World) (h : RdAt r i lv s w) :
  Calls Tryz.prog 57 #[.pointer (some ⟨r.b, 0, none⟩)] w fun e w' => ∃ a j, hereM r i = .ok (a, j) ∧ e = .returned (.int .i64 a) ∧ RdAt r j lv s w' ∧ Mv r w w' :=
 (here_any r i lv s w h).mono fun e w' ⟨h1, h2⟩ => ⟨_, _, rfl, h1, h.below h2, Mv.of_below h2⟩
theorem tok_x (r : Rdr) (i lv : Nat) (s : Bool) (w : World) (h : RdAt r i lv s w) :
  Calls Tryz.prog 30 #[.pointer (some ⟨r.b, 0, none⟩)] w fun e w' => ∃ (x : Lx.Tok) (j : Nat), tokM r i = .ok (x, j) ∧ e = .returned (.agg (tkC x.kind x.text x.at_)) ∧ RdAt r j lv s w' ∧ Mv r w w' :=
 (token_any r i lv s w h).mono fun e w' ⟨h1, h2⟩ => ⟨_, _, rfl, h1, h.below h2, Mv.of_below h2⟩
theorem is_x (r : Rdr) (i lv : Nat) (s : Bool) (sg : ByteArray) (w : World) (h : RdAt r i lv s w) :
  Calls Tryz.prog 80 #[.pointer (some ⟨r.b, 0, none⟩), .string sg] w fun e w' => ∃ (b : Bool) (j : Nat), isM r sg i = .ok (b, j) ∧ e = .returned (.bool b) ∧ RdAt r j lv s w' ∧ Mv r w w' :=
 (at_any r i lv s sg w h).mono fun e w' ⟨h1, h2⟩ => ⟨_, _, rfl, h1, h.below h2, Mv.of_below h2⟩
theorem took_x (r : Rdr) (i lv : Nat) (s : Bool) (sg : ByteArray) (w : World) (h : RdAt r i lv s w) (hE : EndAt r) (hs : sg.size ≠ 0) :
  Calls Tryz.prog 73 #[.pointer (some ⟨r.b, 0, none⟩), .string sg] w fun e w' => ∃ (b : Bool) (j : Nat), tookM r sg i = .ok (b, j) ∧ e = .returned (.bool b) ∧ RdAt r j lv s w' ∧ Mv r w w' := by
 by_cases hm : isMark r i sg = true
 ·refine (took_yes r i lv s sg w h hm hs (hE.mark h.lt hm hs)).mono ?_
  rintro e w' ⟨h1, h2, h3⟩
  exact ⟨true, i + 1, by unfold tookM; rw [if_pos hm], h1, h2, h3⟩
 ·refine (took_no r i lv s sg w h (by simpa using hm)).mono ?_
  rintro e w' ⟨h1, h2⟩
  exact ⟨false, i, by unfold tookM; rw [if_neg hm], h1, h.below h2, Mv.of_below h2⟩
theorem need_x (r : Rdr) (i lv : Nat) (s : Bool) (sg : ByteArray) (w : World) (h : RdAt r i lv s w) (hE : EndAt r) (hs : sg.size ≠ 0) :
  Calls Tryz.prog 58 #[.pointer (some ⟨r.b, 0, none⟩), .string sg] w fun e w' =>
   (∃ k, needM r sg i = .error k ∧ e = stopAt k ∧ Mv r w w') ∨ (∃ (b : Unit) (j : Nat), needM r sg i = .ok (b, j) ∧ e = .returned (.tuple #[]) ∧ RdAt r j lv s w' ∧ Mv r w w') := by
 by_cases hm : isMark r i sg = true
 ·refine (need_yes r i lv s sg w h hm hs (hE.mark h.lt hm hs)).mono ?_
  rintro e w' ⟨h1, h2, h3⟩
  exact .inr ⟨(), i + 1, by unfold needM; rw [if_pos hm], h1, h2, h3⟩
 ·refine (need_no r i lv s sg w h (by simpa using hm)).mono ?_
  rintro e w' ⟨h1, h2⟩
  exact .inl ⟨i, by unfold needM; rw [if_neg hm], h1, Mv.of_below h2⟩
theorem name_x (r : Rdr) (i lv : Nat) (s : Bool) (w : World) (h : RdAt r i lv s w) (hE : EndAt r) :
  Calls Tryz.prog 59 #[.pointer (some ⟨r.b, 0, none⟩)] w fun e w' =>
   (∃ k, nameM r i = .error k ∧ e = stopAt k ∧ Mv r w w') ∨ (∃ (t : ByteArray) (j : Nat), nameM r i = .ok (t, j) ∧ e = .returned (.string t) ∧ RdAt r j lv s w' ∧ Mv r w w') := by
 by_cases hm : (r.L.getD i tok0).kind = 1
 ·refine (name_yes r i lv s w h hm (hE i h.lt (.inl hm))).mono ?_
  rintro e w' ⟨h1, h2, h3⟩
  exact .inr ⟨_, i + 1, by unfold nameM; rw [if_pos hm], h1, h2, h3⟩
 ·refine (name_no r i lv s w h hm).mono ?_
  rintro e w' ⟨h1, h2⟩
  exact .inl ⟨i, by unfold nameM; rw [if_neg hm], h1, Mv.of_below h2⟩
theorem sign_x (r : Rdr) (i lv : Nat) (s : Bool) (V : List ByteArray) (b o n cap : Nat) (w : World) (h : RdAt r i lv s w) (hE : EndAt r) (hn : n = V.length) (hn2 : n ≤ 100) (hV : TextsAt w b o V) (hz : ∀ v ∈ V, v.size ≠ 0) :
  Calls Tryz.prog 86 #[.pointer (some ⟨r.b, 0, none⟩), .slice (some ⟨b, o, none⟩) n cap] w fun e w' => ∃ (t : ByteArray) (j : Nat), signM r V i = .ok (t, j) ∧ e = .returned (.string t) ∧ RdAt r j lv s w' ∧ Mv r w w' := by
 by_cases hm : hit (r.L.getD i tok0).text V = true
 ·refine (sign_yes r i lv s V b o n cap w h hn hn2 hV hm (hE i h.lt (.inr (hit_size hm hz)))).mono ?_
  rintro e w' ⟨h1, h2, h3⟩
  exact ⟨_, i + 1, by unfold signM; rw [if_pos hm], h1, h2, h3⟩
 ·refine (sign_no r i lv s V b o n cap w h hn hn2 hV (by simpa using hm)).mono ?_
  rintro e w' ⟨h1, h2⟩
  exact ⟨_, i, by unfold signM; rw [if_neg hm], h1, h.below h2, Mv.of_below h2⟩
/-- what a rule leaves, as two cases -/
theorem RulePost.two {r : Rdr} {p : PM Tree} {i lv : Nat} {s : Bool} {w : World} {e : Ending} {w' : World} (h : RulePost r (p i) lv s w e w') :
  (∃ k, p i = .error k ∧ e = stopAt k ∧ Mv r w w') ∨ (∃ (t : Tree) (j : Nat), p i = .ok (t, j) ∧ ∃ q : Raw, e = .returned (.agg (ndC q)) ∧ IsT (fun b => w.heap.size ≤ b) w' q t ∧ RdAt r j lv s w' ∧ Mv r w w') := by
 cases hx : p i with
 | error k => rw [hx] at h; exact .inl ⟨k, rfl, h⟩
 | ok z => obtain ⟨t, j⟩ := z; rw [hx] at h; exact .inr ⟨t, j, rfl, h⟩
theorem ListPost.two {r : Rdr} {p : PM (List Tree)} {i lv : Nat} {s : Bool} {w : World} {e : Ending} {w' : World} (h : ListPost r (p i) lv s w e w') :
  (∃ k, p i = .error k ∧ e = stopAt k ∧ Mv r w w') ∨ (∃ (l : List Tree) (j : Nat), p i = .ok (l, j) ∧ ∃ v, e = .returned v ∧ Nodes w.heap.size w' v l ∧ RdAt r j lv s w' ∧ Mv r w w') := by
 cases hx : p i with
 | error k => rw [hx] at h; exact .inl ⟨k, rfl, h⟩
 | ok z => obtain ⟨t, j⟩ := z; rw [hx] at h; exact .inr ⟨t, j, rfl, h⟩
/-- trees and lists that were made since stay what they are -/
theorem IsT.mvB {r : Rdr} {B : Nat} {w w' : World} {q : Raw} {t : Tree} (h : IsT (fun b => B < b) w q t) (hm : Mv r w w') (hr : r.b < B) : IsT (fun b => B < b) w' q t := h.but hm (fun a e q => by rw [e] at q; omega)
theorem IsTs.mvB {r : Rdr} {B : Nat} {w w' : World} {v : Value} {l : List Tree} (h : IsTs (fun b => B < b) w v l) (hm : Mv r w w') (hr : r.b < B) : IsTs (fun b => B < b) w' v l := h.but hm (fun a e q => by rw [e] at q; omega)
theorem ResAt.up {w W : World} (h : ResAt w W) {b : Nat} (hb : W.heap.size ≤ b) : w.heap.size < b := by have := lt_heap h.z; omega
/-- nodes in a row in a new block -/
theorem IsTs.row {A : Nat → Prop} {w : World} {n : Nat} {t : TypeId} (cs : Array Value) (qs : List Raw) (ts : List Tree) (hcs : cs.toList = rawEnc.all qs) (hn : n = qs.length) (hl : qs.length = ts.length) (h0 : 0 < n) (hm : n ≤ maxLen) (hA : A w.heap.size) (hT : ∀ i (h1 : i < qs.length) (h2 : i < ts.length), IsT A w qs[i] ts[i]) :
  IsTs A (w.alloc (.cells cs t)) (.slice (some ⟨w.heap.size, 0, none⟩) n n) ts := by
 refine ⟨_, n, n, qs, rfl, ⟨_, n, by rw [hn], by omega, hm, fun _ => ⟨w.heap.size, 0, rfl, fun j v hv => ?_⟩⟩, fun e => (by cases e), fun b o e _ => ?_, hl, fun i a c => (hT i a c).later (boxB w _)⟩
 ·rw [Lib.cell_of_heap (heap_alloc_new w _), Nat.zero_add, ← Array.getElem?_toList, hcs]
  exact hv
 ·injection e with e
  injection e with e1 _ _
  subst e1
  exact hA
theorem Nodes.lower {B B' : Nat} {w : World} {v : Value} {ts : List Tree} (h : Nodes B' w v ts) (hB : B ≤ B') : Nodes B w v ts := by
 obtain ⟨R, ho, hR, ht⟩ := h
 exact ⟨R, ⟨ho.1, ho.2.imp id (fun ⟨g, c, cur, e, hb, rest⟩ => ⟨g, c, cur, e, Nat.le_trans hB hb, rest⟩)⟩, hR, fun i a b => (ht i a b).mono (fun b hb => ⟨Nat.le_trans hB hb.1, hb.2⟩)⟩
theorem IsTs.rowAt {A : Nat → Prop} {w : World} {g n : Nat} {t : TypeId} (cs : Array Value) (qs : List Raw) (ts : List Tree) (hg : w.heap[g]? = some (.cells cs t (0, 0))) (hcs : cs.toList = rawEnc.all qs) (hn : n = qs.length) (hl : qs.length = ts.length) (h0 : 0 < n) (hm : n ≤ maxLen) (hA : A g) (hT : ∀ i (h1 : i < qs.length) (h2 : i < ts.length), IsT A w qs[i] ts[i]) :
  IsTs A w (.slice (some ⟨g, 0, none⟩) n n) ts := by
 refine ⟨_, n, n, qs, rfl, ⟨_, n, by rw [hn], by omega, hm, fun _ => ⟨g, 0, rfl, fun j v hv => ?_⟩⟩, fun e => (by cases e), fun b o e _ => ?_, hl, hT⟩
 ·rw [Lib.cell_of_heap hg, Nat.zero_add, ← Array.getElem?_toList, hcs]
  exact hv
 ·injection e with e
  injection e with e1 _ _
  subst e1
  exact hA
def row2 (q1 q2 : Raw) : Array Value := #[.int .i64 q1.kind, .string q1.text, .int .i64 q1.at_, .slice q1.p q1.n q1.cap, .int .i64 q2.kind, .string q2.text, .int .i64 q2.at_, .slice q2.p q2.n q2.cap]
theorem IsT.two {A : Nat → Prop} {w : World} {g : Nat} {t : TypeId} {q1 q2 : Raw} {t1 t2 : Tree} (k : Int) (s : ByteArray) (a : Int) (hg : w.heap[g]? = some (.cells (row2 q1 q2) t (0, 0))) (hA : A g) (h1 : IsT A w q1 t1) (h2 : IsT A w q2 t2) :
  IsT A w ⟨k, s, a, some ⟨g, 0, none⟩, 2, 2⟩ (.mk k s a [t1, t2]) := by
 refine IsT.node _ _ _ (IsTs.rowAt _ [q1, q2] _ hg rfl rfl rfl (by decide) (by decide) hA (fun i h1' h2' => ?_))
 match i, h1', h2' with
 | 0, _, _ => exact h1
 | 1, _, _ => exact h2
 | i + 2, h, _ => exact absurd h (by simp)
theorem IsT.one {A : Nat → Prop} {w : World} {g : Nat} {t : TypeId} {q1 : Raw} {t1 : Tree} (k : Int) (s : ByteArray) (a : Int) (hg : w.heap[g]? = some (.cells (ndC q1) t (0, 0))) (hA : A g) (h1 : IsT A w q1 t1) :
  IsT A w ⟨k, s, a, some ⟨g, 0, none⟩, 1, 1⟩ (.mk k s a [t1]) := by
 refine IsT.node _ _ _ (IsTs.rowAt _ [q1] _ hg rfl rfl rfl (by decide) (by decide) hA (fun i h1' h2' => ?_))
 match i, h1', h2' with
 | 0, _, _ => exact h1
 | i + 1, h, _ => exact absurd h (by simp)
theorem texts_row {w : World} {t : TypeId} (cs : Array Value) (V : List ByteArray) (h : cs.toList = V.map Value.string) : TextsAt (w.alloc (.cells cs t)) w.heap.size 0 V := fun j hj => by
 rw [Lib.cell_of_heap (heap_alloc_new w _), Nat.zero_add, ← Array.getElem?_toList, h]
 simp [hj]
/-- a local variable that holds a node, in a block that was made since -/
structure BoxAt (r : Rdr) (w : World) (g : Nat) (q : Raw) (W : World) : Prop where
 z : W.heap[g]? = some (.cells (ndC q) 37 (0, 0))
 new : w.heap.size < g
 old : r.b < w.heap.size
theorem BoxAt.mvB {r : Rdr} {w W W' : World} {g : Nat} {q : Raw} {B : Nat} (h : BoxAt r w g q W) (hm : Mv r W W') (hr : r.b < B) : BoxAt r w g q W' :=
 ⟨by rw [hm.block (lt_heap h.z) (by have := h.new; have := h.old; omega)]; exact h.z, h.new, h.old⟩
theorem BoxAt.cells {r : Rdr} {w W : World} {g : Nat} {q : Raw} (h : BoxAt r w g q W) : W.cell? ⟨g, 0, none⟩ = some (.int .i64 q.kind) ∧ W.cell? ⟨g, 1, none⟩ = some (.string q.text) ∧ W.cell? ⟨g, 2, none⟩ = some (.int .i64 q.at_) ∧ W.cell? ⟨g, 3, none⟩ = some (.slice q.p q.n q.cap) :=
 ⟨by rw [Lib.cell_of_heap h.z]; rfl, by rw [Lib.cell_of_heap h.z]; rfl, by rw [Lib.cell_of_heap h.z]; rfl, by rw [Lib.cell_of_heap h.z]; rfl⟩
end Go.Proofs.YtheigpiffdabnaaGreat
