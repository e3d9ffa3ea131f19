/-
  CONTRACTS: binary, unary, items.
-/
import Derived.Test.YtheigpiffdabnaaGreatZA6
set_option linter.unusedSimpArgs false
set_option linter.unusedVariables false
namespace Go.Proofs.YtheigpiffdabnaaGreat
open Go Go.RowKit
theorem new_at {w : World} (o : Obj) {k : Nat} (h : w.heap.size = k) : (w.alloc o).heap[k]? = some o := by subst h; exact heap_alloc_new w o
/-- a node that is stored into a cell of the call's own -/
theorem stored_node {W w : World} {g0 g1 B : Nat} (q : Raw) {o : Obj} (h0 : W.heap[g0]? = some (.cells (ndC ⟨0, ⟨#[]⟩, 0, none, 0, 0⟩) 37 (0, 0))) (h1 : W.heap[g1]? = some o) (hne : g1 ≠ g0) (hb : Below B w W) (hB : B ≤ g0) :
  ((((W.setCell ⟨g0, 0, none⟩ (.int .i64 q.kind)).setCell ⟨g0, 1, none⟩ (.string q.text)).setCell ⟨g0, 2, none⟩ (.int .i64 q.at_)).setCell ⟨g0, 3, none⟩ (.slice q.p q.n q.cap)).heap[g0]? = some (.cells (ndC q) 37 (0, 0)) ∧
  ((((W.setCell ⟨g0, 0, none⟩ (.int .i64 q.kind)).setCell ⟨g0, 1, none⟩ (.string q.text)).setCell ⟨g0, 2, none⟩ (.int .i64 q.at_)).setCell ⟨g0, 3, none⟩ (.slice q.p q.n q.cap)).heap[g1]? = some o ∧
  Below B w ((((W.setCell ⟨g0, 0, none⟩ (.int .i64 q.kind)).setCell ⟨g0, 1, none⟩ (.string q.text)).setCell ⟨g0, 2, none⟩ (.int .i64 q.at_)).setCell ⟨g0, 3, none⟩ (.slice q.p q.n q.cap)) := by
 refine ⟨heap_setCell_same _ _ _ _ _ _ (heap_setCell_same _ _ _ _ _ _ (heap_setCell_same _ _ _ _ _ _ (heap_setCell_same _ _ _ _ _ _ h0))), ?_, Below.setCell (Below.setCell (Below.setCell (Below.setCell hb hB _) hB _) hB _) hB _⟩
 rw [Below.heap_setCell _ _ _ _ (by exact hne), Below.heap_setCell _ _ _ _ (by exact hne), Below.heap_setCell _ _ _ _ (by exact hne), Below.heap_setCell _ _ _ _ (by exact hne)]
 exact h1
set_option maxRecDepth 100000 in
set_option maxHeartbeats 1000000 in
theorem binary_any (sg : ByteArray) (q1 q2 : Raw) (w : World) :
  Calls Tryz.prog 91 #[.string sg, .agg (ndC q1), .agg (ndC q2)] w fun e w' => ∃ g, w.heap.size ≤ g ∧ e = .returned (.agg (ndC ⟨28, sg, q1.at_, some ⟨g, 0, none⟩, 2, 2⟩)) ∧ Below w.heap.size w w' ∧ w'.heap[g]? = some (.cells (row2 q1 q2) 37 (0, 0)) := by
 have HB : Hid (Below w.heap.size w ((((w.alloc (.cells #[.int .i64 q1.kind, .string q1.text, .int .i64 q1.at_, .slice q1.p q1.n q1.cap] 37)).alloc (.cells #[.int .i64 q2.kind, .string q2.text, .int .i64 q2.at_, .slice q2.p q2.n q2.cap] 37)).alloc (.cells #[.int .i64 0, .string ⟨#[]⟩, .int .i64 0, .slice none 0 0] 37)).alloc (.cells (row2 q1 q2) 37))) := bnext (boxB w _) (bnext (boxB _ _) (bnext (boxB _ _) (boxB _ _)))
 have HG : Hid (((((w.alloc (.cells #[.int .i64 q1.kind, .string q1.text, .int .i64 q1.at_, .slice q1.p q1.n q1.cap] 37)).alloc (.cells #[.int .i64 q2.kind, .string q2.text, .int .i64 q2.at_, .slice q2.p q2.n q2.cap] 37)).alloc (.cells #[.int .i64 0, .string ⟨#[]⟩, .int .i64 0, .slice none 0 0] 37)).alloc (.cells (row2 q1 q2) 37)).heap[w.heap.size + 1 + 1 + 1]? = some (.cells (row2 q1 q2) 37 (0, 0))) := new_at _ (by simp)
 have HZ : Hid (((((w.alloc (.cells #[.int .i64 q1.kind, .string q1.text, .int .i64 q1.at_, .slice q1.p q1.n q1.cap] 37)).alloc (.cells #[.int .i64 q2.kind, .string q2.text, .int .i64 q2.at_, .slice q2.p q2.n q2.cap] 37)).alloc (.cells #[.int .i64 0, .string ⟨#[]⟩, .int .i64 0, .slice none 0 0] 37)).alloc (.cells (row2 q1 q2) 37)).heap[w.heap.size + 1 + 1]? = some (.cells (ndC ⟨0, ⟨#[]⟩, 0, none, 0, 0⟩) 37 (0, 0))) := by
  refine (Below.heap_alloc _ _ _ (by simp)).trans ?_
  exact new_at _ (by simp)
 unfold row2 at HB HG HZ
 unfold ndC
 go_enter Tryz.func91, Tryz.ntmps91
 go_wp2_with fail
 generalize (((w.alloc (.cells #[.int .i64 q1.kind, .string q1.text, .int .i64 q1.at_, .slice q1.p q1.n q1.cap] 37)).alloc (.cells #[.int .i64 q2.kind, .string q2.text, .int .i64 q2.at_, .slice q2.p q2.n q2.cap] 37)).alloc (.cells #[.int .i64 0, .string ⟨#[]⟩, .int .i64 0, .slice none 0 0] 37)).alloc (.cells #[.int .i64 q1.kind, .string q1.text, .int .i64 q1.at_, .slice q1.p q1.n q1.cap, .int .i64 q2.kind, .string q2.text, .int .i64 q2.at_, .slice q2.p q2.n q2.cap] 37) = w4 at *
 refine (node_any 28 sg q1.at_ (some ⟨w.heap.size + 1 + 1 + 1, 0, none⟩) 2 2 w4).mono ?_
 rintro e w5 ⟨rfl, hb5⟩
 have hz5 : w5.heap[w.heap.size + 1 + 1]? = some (.cells (ndC ⟨0, ⟨#[]⟩, 0, none, 0, 0⟩) 37 (0, 0)) := (hb5.block _ (lt_heap HZ.out)).trans HZ.out
 have hg5 : w5.heap[w.heap.size + 1 + 1 + 1]? = some (.cells (row2 q1 q2) 37 (0, 0)) := (hb5.block _ (lt_heap HG.out)).trans HG.out
 have HS := Lib.hid (stored_node (q := ⟨28, sg, q1.at_, some ⟨w.heap.size + 1 + 1 + 1, 0, none⟩, 2, 2⟩) (B := w.heap.size) (w := w) hz5 hg5 (by omega) (HB.out.trans (hb5.mono HB.out.size)) (by omega))
 have d0 : w5.cell? ⟨w.heap.size + 1 + 1, 0, none⟩ = some (.int .i64 0) := by rw [Lib.cell_of_heap hz5]; rfl
 have d1 : w5.cell? ⟨w.heap.size + 1 + 1, 1, none⟩ = some (.string ⟨#[]⟩) := by rw [Lib.cell_of_heap hz5]; rfl
 have d2 : w5.cell? ⟨w.heap.size + 1 + 1, 2, none⟩ = some (.int .i64 0) := by rw [Lib.cell_of_heap hz5]; rfl
 have d3 : w5.cell? ⟨w.heap.size + 1 + 1, 3, none⟩ = some (.slice none 0 0) := by rw [Lib.cell_of_heap hz5]; rfl
 have f0 : ∀ j, w5.frozen? ⟨w.heap.size + 1 + 1, j, none⟩ = false := fun j => Lib.frozen_of_heap hz5 j
 clear hb5 hz5 hg5
 unfold ndC
 go_wp2_with fail
 obtain ⟨h0, h1, h2⟩ := HS.out
 exact bodyPost_ret (results_cellT rfl _ _ _ ⟨w.heap.size + 1 + 1, 0, none⟩ _ rfl (load_node _ _ ⟨28, sg, q1.at_, some ⟨w.heap.size + 1 + 1 + 1, 0, none⟩, 2, 2⟩ h0)) rfl ⟨w.heap.size + 1 + 1 + 1, by omega, rfl, h2, h1⟩
set_option maxRecDepth 100000 in
set_option maxHeartbeats 1000000 in
theorem unary_any (r : Rdr) (i lv : Nat) (s : Bool) (E Bk U : PM Tree) (w : World) (h : RdAt r i lv s w) (hE : EndAt r)
  (HUB : ∀ a w1, RdAt r a lv s w1 → Calls Tryz.prog 75 #[.pointer (some ⟨r.b, 0, none⟩), .func (.func 103) #[] #[]] w1 (RulePost r (U a) lv s w1))
  (HPO : ∀ a w1, RdAt r a lv s w1 → Calls Tryz.prog 104 #[.pointer (some ⟨r.b, 0, none⟩)] w1 (RulePost r (postM r E Bk a) lv s w1)) :
  Calls Tryz.prog 103 #[.pointer (some ⟨r.b, 0, none⟩)] w (RulePost r (unaryM r E Bk U i) lv s w) := by
 have HRB : Hid (r.b < w.heap.size) := lt_heap h.cells
 have HR1 := Lib.hid (h.below (boxB w (.cells #[.int .i64 0, .string ⟨#[]⟩, .int .i64 0, .slice none 0 0] 37)))
 have HM1 := Lib.hid (Mv.of_below (r := r) (boxB w (.cells #[.int .i64 0, .string ⟨#[]⟩, .int .i64 0, .slice none 0 0] 37)))
 have HS1 := Lib.hid (ResAt.start w)
 generalize hX0 : unaryM r E Bk U i = X
 unfold unaryM at hX0
 have HX1 := Lib.hid hX0
 have HE := Lib.hid hE
 have HU1 := Lib.hid HUB
 have HP1 := Lib.hid HPO
 clear hX0 h hE HUB HPO
 go_enter Tryz.func103, Tryz.ntmps103
 go_wp2_with fail
 generalize w.alloc (.cells #[.int .i64 0, .string ⟨#[]⟩, .int .i64 0, .slice none 0 0] 37) = w1 at *
 refine (here_x r i lv s w1 HR1.out).mono ?_
 rintro e w2 ⟨a, j2, hx, rfl, hr, hm⟩
 have HX2 := Lib.hid (bindM_ok hx HX1.out)
 have HR2 := Lib.hid hr
 have HM2 := Lib.hid (HM1.out.trans hm)
 have HS2 := Lib.hid (HS1.out.mv hm HRB.out)
 clear hx hr hm HX1 HR1 HM1 HS1
 go_wp2_with fail
 have hb := boxB w2 (.cells #[.string ⟨#[45]⟩, .string ⟨#[33]⟩] 9)
 have hm : Mv r w2 (w2.alloc (.cells #[.string ⟨#[45]⟩, .string ⟨#[33]⟩] 9)) := Mv.of_below hb
 have HX3 := HX2
 have HR3 := Lib.hid (HR2.out.below hb)
 have HM3 := Lib.hid (HM2.out.trans hm)
 have HS3 := Lib.hid (HS2.out.mv hm HRB.out)
 have HV : Hid (TextsAt (w2.alloc (.cells #[.string ⟨#[45]⟩, .string ⟨#[33]⟩] 9)) w2.heap.size 0 Vun) := texts_row _ Vun rfl
 clear hb hm HX2 HR2 HM2 HS2
 generalize w2.alloc (.cells #[.string ⟨#[45]⟩, .string ⟨#[33]⟩] 9) = w3 at *
 refine (sign_x r j2 lv s Vun w2.heap.size 0 2 2 w3 HR3.out HE.out rfl (by decide) HV.out (by decide)).mono ?_
 rintro e w4 ⟨sg, j4, hx, rfl, hr, hm⟩
 have HX4 := Lib.hid (bindM_ok hx HX3.out)
 have HR4 := Lib.hid hr
 have HM4 := Lib.hid (HM3.out.trans hm)
 have HS4 := Lib.hid (HS3.out.mv hm HRB.out)
 clear hx hr hm HX3 HR3 HM3 HS3
 clear HV
 cases hz : sg.toList.isEmpty
 all_goals rw [hz] at HX4
 ·go_wp2_with fail
  refine (HU1.out j4 w4 HR4.out).mono ?_
  intro e w5 hp
  rcases (RulePost.two (p := U) hp) with ⟨k, hx, rfl, hm⟩ | ⟨t, j5, hx, q5, rfl, ht, hr, hm⟩
  ·have HM5 := Lib.hid (HM4.out.trans hm)
   have hX := bindM_err hx HX4.out
   clear hx hm
   subst hX
   unfold stopAt
   go_wp2_with fail
   exact ⟨rfl, rfl, HM5.out⟩
  have HX5 := Lib.hid (bindM_ok hx HX4.out)
  have HR5 := Lib.hid hr
  have HM5 := Lib.hid (HM4.out.trans hm)
  have HS5 := Lib.hid (HS4.out.mv hm HRB.out)
  have HTt5 : Hid (IsT (fun b => w.heap.size < b) w5 q5 t) := ht.mono (fun b hb => HS4.out.up hb)
  unfold ndC
  clear hp hx ht hr hm HX4 HR4 HM4 HS4
  go_wp2_with fail
  have hb := boxB w5 (.cells #[.int .i64 q5.kind, .string q5.text, .int .i64 q5.at_, .slice q5.p q5.n q5.cap] 37)
  have hm : Mv r w5 (w5.alloc (.cells #[.int .i64 q5.kind, .string q5.text, .int .i64 q5.at_, .slice q5.p q5.n q5.cap] 37)) := Mv.of_below hb
  have HR6 := Lib.hid (HR5.out.below hb)
  have HM6 := Lib.hid (HM5.out.trans hm)
  have HS6 := Lib.hid (HS5.out.mv hm HRB.out)
  have hlt := lt_heap HS5.out.z
  have HL6 : Hid (IsTs (fun b => w.heap.size < b) (w5.alloc (.cells #[.int .i64 q5.kind, .string q5.text, .int .i64 q5.at_, .slice q5.p q5.n q5.cap] 37)) (.slice (some ⟨w5.heap.size, 0, none⟩) 1 1) [t]) := by
   refine IsTs.row _ [q5] _ rfl rfl rfl (by decide) (by decide) hlt (fun i h1 h2 => ?_)
   match i, h1, h2 with
   | 0, _, _ => exact HTt5.out
   | i + 1, h1, _ => exact absurd h1 (by simp)
  clear hb hm hlt HR5 HM5 HS5 HTt5
  have HX6 := HX5
  clear HX5
  obtain ⟨g6, hg6⟩ : ∃ g, w5.heap.size = g := ⟨_, rfl⟩
  clear hg6
  generalize w5.alloc (.cells #[.int .i64 q5.kind, .string q5.text, .int .i64 q5.at_, .slice q5.p q5.n q5.cap] 37) = w6 at *
  refine (node_any 27 sg a (some ⟨w5.heap.size, 0, none⟩) 1 1 w6).mono ?_
  rintro e w7 ⟨rfl, hb⟩
  have hm : Mv r w6 w7 := Mv.of_below hb
  have HX7 := HX6
  have HR7 := Lib.hid (HR6.out.below hb)
  have HM7 := Lib.hid (HM6.out.trans hm)
  have HS7 := Lib.hid (HS6.out.mv hm HRB.out)
  have HL7 := Lib.hid (HL6.out.mvB hm HRB.out)
  clear hb hm HX6 HR6 HM6 HS6 HL6
  have HW := Lib.hid (res_world r j5 lv s w w7 ⟨27, sg, a, some ⟨w5.heap.size, 0, none⟩, 1, 1⟩ (.mk 27 sg a [t]) HRB.out HM7.out HS7.out.z (IsT.node _ _ _ HL7.out) HR7.out)
  obtain ⟨d0, d1, d2, d3, f0⟩ := HS7.out.cells
  have hX : Except.ok ((.mk 27 sg a [t]), j5) = X := HX7.out
  clear HX7
  subst hX
  (try unfold ndC)
  go_wp2_with fail
  obtain ⟨hcell, hist, hrd, hmv⟩ := HW.out
  exact bodyPost_ret (results_cellT rfl _ _ _ ⟨w.heap.size, 0, none⟩ _ rfl (load_node _ _ ⟨27, sg, a, some ⟨w5.heap.size, 0, none⟩, 1, 1⟩ hcell)) rfl ⟨_, rfl, hist, hrd, hmv⟩
 ·go_wp2_with fail
  refine (HP1.out j4 w4 HR4.out).mono ?_
  intro e w8 hp
  rcases (RulePost.two (p := postM r E Bk) hp) with ⟨k, hx, rfl, hm⟩ | ⟨t, j8, hx, q8, rfl, ht, hr, hm⟩
  ·have HM8 := Lib.hid (HM4.out.trans hm)
   have hX := hx.symm.trans HX4.out
   clear hx hm hp
   subst hX
   unfold stopAt
   go_wp2_with fail
   exact ⟨rfl, rfl, HM8.out⟩
  have HX8 := Lib.hid ((hx.symm.trans HX4.out) : Except.ok (t, j8) = X)
  have HR8 := Lib.hid hr
  have HM8 := Lib.hid (HM4.out.trans hm)
  have HS8 := Lib.hid (HS4.out.mv hm HRB.out)
  have HTt8 : Hid (IsT (fun b => w.heap.size < b) w8 q8 t) := ht.mono (fun b hb => HS4.out.up hb)
  unfold ndC
  clear hp hx ht hr hm HX4 HR4 HM4 HS4
  have HW := Lib.hid (res_world r j8 lv s w w8 q8 t HRB.out HM8.out HS8.out.z HTt8.out HR8.out)
  obtain ⟨d0, d1, d2, d3, f0⟩ := HS8.out.cells
  have hX : Except.ok (t, j8) = X := HX8.out
  clear HX8
  subst hX
  (try unfold ndC)
  go_wp2_with fail
  obtain ⟨hcell, hist, hrd, hmv⟩ := HW.out
  exact bodyPost_ret (results_cellT rfl _ _ _ ⟨w.heap.size, 0, none⟩ _ rfl (load_node _ _ q8 hcell)) rfl ⟨_, rfl, hist, hrd, hmv⟩
set_option maxRecDepth 100000 in
set_option maxHeartbeats 1000000 in
theorem record_any (r : Rdr) (i lv : Nat) (s : Bool) (T : PM Tree) (w : World) (h : RdAt r i lv s w) (hE : EndAt r)
  (HTY : ∀ a w1, RdAt r a lv s w1 → Calls Tryz.prog 60 #[.pointer (some ⟨r.b, 0, none⟩)] w1 (RulePost r (T a) lv s w1))
  (hau : Up (argP r T)) :
  Calls Tryz.prog 44 #[.pointer (some ⟨r.b, 0, none⟩)] w (RulePost r (recordM r T i) lv s w) := by
 have HRB : Hid (r.b < w.heap.size) := lt_heap h.cells
 have HR1 := Lib.hid (h.below (boxB w (.cells #[.int .i64 0, .string ⟨#[]⟩, .int .i64 0, .slice none 0 0] 37)))
 have HM1 := Lib.hid (Mv.of_below (r := r) (boxB w (.cells #[.int .i64 0, .string ⟨#[]⟩, .int .i64 0, .slice none 0 0] 37)))
 have HS1 := Lib.hid (ResAt.start w)
 generalize hX0 : recordM r T i = X
 unfold recordM at hX0
 have HX1 := Lib.hid hX0
 have HE := Lib.hid hE
 have HT1 := Lib.hid HTY
 have HAU := Lib.hid hau
 clear hX0 h hE HTY hau
 go_enter Tryz.func44, Tryz.ntmps44
 go_wp2_with fail
 generalize w.alloc (.cells #[.int .i64 0, .string ⟨#[]⟩, .int .i64 0, .slice none 0 0] 37) = w1 at *
 refine (here_x r i lv s w1 HR1.out).mono ?_
 rintro e w2 ⟨a, j2, hx, rfl, hr, hm⟩
 have HX2 := Lib.hid (bindM_ok hx HX1.out)
 have HR2 := Lib.hid hr
 have HM2 := Lib.hid (HM1.out.trans hm)
 have HS2 := Lib.hid (HS1.out.mv hm HRB.out)
 clear hx hr hm HX1 HR1 HM1 HS1
 go_wp2_with fail
 refine (need_x r j2 lv s ⟨#[116, 121, 112, 101]⟩ w2 HR2.out HE.out (by decide)).mono ?_
 rintro e w3 (⟨k, hx, rfl, hm⟩ | ⟨_, j3, hx, rfl, hr, hm⟩)
 ·have HM3 := Lib.hid (HM2.out.trans hm)
  have hX := bindM_err hx HX2.out
  clear hx hm
  subst hX
  unfold stopAt
  go_wp2_with fail
  exact ⟨rfl, rfl, HM3.out⟩
 have HX3 := Lib.hid (bindM_ok hx HX2.out)
 have HR3 := Lib.hid hr
 have HM3 := Lib.hid (HM2.out.trans hm)
 have HS3 := Lib.hid (HS2.out.mv hm HRB.out)
 clear hx hr hm HX2 HR2 HM2 HS2
 go_wp2_with fail
 refine (name_x r j3 lv s w3 HR3.out HE.out).mono ?_
 rintro e w4 (⟨k, hx, rfl, hm⟩ | ⟨nm, j4, hx, rfl, hr, hm⟩)
 ·have HM4 := Lib.hid (HM3.out.trans hm)
  have hX := bindM_err hx HX3.out
  clear hx hm
  subst hX
  unfold stopAt
  go_wp2_with fail
  exact ⟨rfl, rfl, HM4.out⟩
 have HX4 := Lib.hid (bindM_ok hx HX3.out)
 have HR4 := Lib.hid hr
 have HM4 := Lib.hid (HM3.out.trans hm)
 have HS4 := Lib.hid (HS3.out.mv hm HRB.out)
 clear hx hr hm HX3 HR3 HM3 HS3
 go_wp2_with fail
 refine (params_any r j4 lv s w4 HR4.out HE.out).mono ?_
 intro e w5 hp
 rcases (RulePost.two (p := paramsP r) hp) with ⟨k, hx, rfl, hm⟩ | ⟨p, j5, hx, q5, rfl, ht, hr, hm⟩
 ·have HM5 := Lib.hid (HM4.out.trans hm)
  have hX := bindM_err hx HX4.out
  clear hx hm
  subst hX
  unfold stopAt
  go_wp2_with fail
  exact ⟨rfl, rfl, HM5.out⟩
 have HX5 := Lib.hid (bindM_ok hx HX4.out)
 have HR5 := Lib.hid hr
 have HM5 := Lib.hid (HM4.out.trans hm)
 have HS5 := Lib.hid (HS4.out.mv hm HRB.out)
 have HTp5 : Hid (IsT (fun b => w.heap.size < b) w5 q5 p) := ht.mono (fun b hb => HS4.out.up hb)
 unfold ndC
 clear hp hx ht hr hm HX4 HR4 HM4 HS4
 go_wp2_with fail
 refine (args_any r j5 lv s ⟨#[123]⟩ ⟨#[125]⟩ 66 (argP r T) w5 HR5.out HE.out (by decide) (by decide) (fun args w => by kernel_rfl) HAU.out (fun a w1 h1 => arg_any r a lv s T w1 h1 HE.out HT1.out)).mono ?_
 intro e w6 hp
 rcases (RulePost.two (p := argsP r ⟨#[123]⟩ ⟨#[125]⟩ (argP r T)) hp) with ⟨k, hx, rfl, hm⟩ | ⟨q, j6, hx, q6, rfl, ht, hr, hm⟩
 ·have HM6 := Lib.hid (HM5.out.trans hm)
  have hX := bindM_err hx HX5.out
  clear hx hm
  subst hX
  unfold stopAt
  go_wp2_with fail
  exact ⟨rfl, rfl, HM6.out⟩
 have HX6 := Lib.hid (bindM_ok hx HX5.out)
 have HR6 := Lib.hid hr
 have HM6 := Lib.hid (HM5.out.trans hm)
 have HS6 := Lib.hid (HS5.out.mv hm HRB.out)
 have HTp6 := Lib.hid (HTp5.out.mvB hm HRB.out)
 have HTq6 : Hid (IsT (fun b => w.heap.size < b) w6 q6 q) := ht.mono (fun b hb => HS5.out.up hb)
 unfold ndC
 clear hp hx ht hr hm HX5 HR5 HM5 HS5 HTp5
 go_wp2_with fail
 have hb := boxB w6 (.cells #[.int .i64 q5.kind, .string q5.text, .int .i64 q5.at_, .slice q5.p q5.n q5.cap, .int .i64 q6.kind, .string q6.text, .int .i64 q6.at_, .slice q6.p q6.n q6.cap] 37)
 have hm : Mv r w6 (w6.alloc (.cells #[.int .i64 q5.kind, .string q5.text, .int .i64 q5.at_, .slice q5.p q5.n q5.cap, .int .i64 q6.kind, .string q6.text, .int .i64 q6.at_, .slice q6.p q6.n q6.cap] 37)) := Mv.of_below hb
 have HR7 := Lib.hid (HR6.out.below hb)
 have HM7 := Lib.hid (HM6.out.trans hm)
 have HS7 := Lib.hid (HS6.out.mv hm HRB.out)
 have hlt := lt_heap HS6.out.z
 have HL7 : Hid (IsTs (fun b => w.heap.size < b) (w6.alloc (.cells #[.int .i64 q5.kind, .string q5.text, .int .i64 q5.at_, .slice q5.p q5.n q5.cap, .int .i64 q6.kind, .string q6.text, .int .i64 q6.at_, .slice q6.p q6.n q6.cap] 37)) (.slice (some ⟨w6.heap.size, 0, none⟩) 2 2) [p, q]) := by
  refine IsTs.row _ [q5, q6] _ rfl rfl rfl (by decide) (by decide) hlt (fun i h1 h2 => ?_)
  match i, h1, h2 with
  | 0, _, _ => exact HTp6.out
  | 1, _, _ => exact HTq6.out
  | i + 2, h1, _ => exact absurd h1 (by simp)
 clear hb hm hlt HR6 HM6 HS6 HTp6 HTq6
 have HX7 := HX6
 clear HX6
 obtain ⟨g7, hg7⟩ : ∃ g, w6.heap.size = g := ⟨_, rfl⟩
 clear hg7
 generalize w6.alloc (.cells #[.int .i64 q5.kind, .string q5.text, .int .i64 q5.at_, .slice q5.p q5.n q5.cap, .int .i64 q6.kind, .string q6.text, .int .i64 q6.at_, .slice q6.p q6.n q6.cap] 37) = w7 at *
 refine (node_any 5 nm a (some ⟨w6.heap.size, 0, none⟩) 2 2 w7).mono ?_
 rintro e w8 ⟨rfl, hb⟩
 have hm : Mv r w7 w8 := Mv.of_below hb
 have HX8 := HX7
 have HR8 := Lib.hid (HR7.out.below hb)
 have HM8 := Lib.hid (HM7.out.trans hm)
 have HS8 := Lib.hid (HS7.out.mv hm HRB.out)
 have HL8 := Lib.hid (HL7.out.mvB hm HRB.out)
 clear hb hm HX7 HR7 HM7 HS7 HL7
 have HW := Lib.hid (res_world r j6 lv s w w8 ⟨5, nm, a, some ⟨w6.heap.size, 0, none⟩, 2, 2⟩ (.mk 5 nm a [p, q]) HRB.out HM8.out HS8.out.z (IsT.node _ _ _ HL8.out) HR8.out)
 obtain ⟨d0, d1, d2, d3, f0⟩ := HS8.out.cells
 have hX : Except.ok ((.mk 5 nm a [p, q]), j6) = X := HX8.out
 clear HX8
 subst hX
 (try unfold ndC)
 go_wp2_with fail
 obtain ⟨hcell, hist, hrd, hmv⟩ := HW.out
 exact bodyPost_ret (results_cellT rfl _ _ _ ⟨w.heap.size, 0, none⟩ _ rfl (load_node _ _ ⟨5, nm, a, some ⟨w6.heap.size, 0, none⟩, 2, 2⟩ hcell)) rfl ⟨_, rfl, hist, hrd, hmv⟩
set_option maxRecDepth 100000 in
set_option maxHeartbeats 1000000 in
theorem function_any (r : Rdr) (i lv : Nat) (s : Bool) (F : FuncId) (Ps T Bk : PM Tree) (w : World) (h : RdAt r i lv s w) (hE : EndAt r)
  (hF : ∀ args w, (callFunc F args).run Tryz.prog w = .ok (.enter F args) w) (HPS : ∀ a w1, RdAt r a lv s w1 → Calls Tryz.prog F #[.pointer (some ⟨r.b, 0, none⟩)] w1 (RulePost r (Ps a) lv s w1))
  (HTY : ∀ a w1, RdAt r a lv s w1 → Calls Tryz.prog 60 #[.pointer (some ⟨r.b, 0, none⟩)] w1 (RulePost r (T a) lv s w1))
  (HBL : ∀ a w1, RdAt r a lv s w1 → Calls Tryz.prog 79 #[.pointer (some ⟨r.b, 0, none⟩)] w1 (RulePost r (Bk a) lv s w1))
  (hau : Up (argP r T)) :
  Calls Tryz.prog 63 #[.pointer (some ⟨r.b, 0, none⟩), .func (.func F) #[] #[]] w (RulePost r (functionM r Ps T Bk i) lv s w) := by
 have HRB : Hid (r.b < w.heap.size) := lt_heap h.cells
 have HR1 := Lib.hid (h.below (boxB w (.cells #[.int .i64 0, .string ⟨#[]⟩, .int .i64 0, .slice none 0 0] 37)))
 have HM1 := Lib.hid (Mv.of_below (r := r) (boxB w (.cells #[.int .i64 0, .string ⟨#[]⟩, .int .i64 0, .slice none 0 0] 37)))
 have HS1 := Lib.hid (ResAt.start w)
 generalize hX0 : functionM r Ps T Bk i = X
 unfold functionM at hX0
 have HX1 := Lib.hid hX0
 have HE := Lib.hid hE
 have HP1 := Lib.hid HPS
 have HT1 := Lib.hid HTY
 have HB1 := Lib.hid HBL
 have HAU := Lib.hid hau
 clear hX0 h hE HPS HTY HBL hau
 go_enter Tryz.func63, Tryz.ntmps63
 go_wp2_with fail
 generalize w.alloc (.cells #[.int .i64 0, .string ⟨#[]⟩, .int .i64 0, .slice none 0 0] 37) = w1 at *
 refine (here_x r i lv s w1 HR1.out).mono ?_
 rintro e w2 ⟨a, j2, hx, rfl, hr, hm⟩
 have HX2 := Lib.hid (bindM_ok hx HX1.out)
 have HR2 := Lib.hid hr
 have HM2 := Lib.hid (HM1.out.trans hm)
 have HS2 := Lib.hid (HS1.out.mv hm HRB.out)
 clear hx hr hm HX1 HR1 HM1 HS1
 go_wp2_with fail
 refine (need_x r j2 lv s ⟨#[102, 110]⟩ w2 HR2.out HE.out (by decide)).mono ?_
 rintro e w3 (⟨k, hx, rfl, hm⟩ | ⟨_, j3, hx, rfl, hr, hm⟩)
 ·have HM3 := Lib.hid (HM2.out.trans hm)
  have hX := bindM_err hx HX2.out
  clear hx hm
  subst hX
  unfold stopAt
  go_wp2_with fail
  exact ⟨rfl, rfl, HM3.out⟩
 have HX3 := Lib.hid (bindM_ok hx HX2.out)
 have HR3 := Lib.hid hr
 have HM3 := Lib.hid (HM2.out.trans hm)
 have HS3 := Lib.hid (HS2.out.mv hm HRB.out)
 clear hx hr hm HX2 HR2 HM2 HS2
 go_wp2_with fail
 refine (name_x r j3 lv s w3 HR3.out HE.out).mono ?_
 rintro e w4 (⟨k, hx, rfl, hm⟩ | ⟨nm, j4, hx, rfl, hr, hm⟩)
 ·have HM4 := Lib.hid (HM3.out.trans hm)
  have hX := bindM_err hx HX3.out
  clear hx hm
  subst hX
  unfold stopAt
  go_wp2_with fail
  exact ⟨rfl, rfl, HM4.out⟩
 have HX4 := Lib.hid (bindM_ok hx HX3.out)
 have HR4 := Lib.hid hr
 have HM4 := Lib.hid (HM3.out.trans hm)
 have HS4 := Lib.hid (HS3.out.mv hm HRB.out)
 clear hx hr hm HX3 HR3 HM3 HS3
 go_wp2_with fail
 refine (HP1.out j4 w4 HR4.out).mono ?_
 intro e w5 hp
 rcases (RulePost.two (p := Ps) hp) with ⟨k, hx, rfl, hm⟩ | ⟨p, j5, hx, q5, rfl, ht, hr, hm⟩
 ·have HM5 := Lib.hid (HM4.out.trans hm)
  have hX := bindM_err hx HX4.out
  clear hx hm
  subst hX
  unfold stopAt
  go_wp2_with fail
  exact ⟨rfl, rfl, HM5.out⟩
 have HX5 := Lib.hid (bindM_ok hx HX4.out)
 have HR5 := Lib.hid hr
 have HM5 := Lib.hid (HM4.out.trans hm)
 have HS5 := Lib.hid (HS4.out.mv hm HRB.out)
 have HTp5 : Hid (IsT (fun b => w.heap.size < b) w5 q5 p) := ht.mono (fun b hb => HS4.out.up hb)
 unfold ndC
 clear hp hx ht hr hm HX4 HR4 HM4 HS4
 go_wp2_with fail
 refine (args_any r j5 lv s ⟨#[40]⟩ ⟨#[41]⟩ 66 (argP r T) w5 HR5.out HE.out (by decide) (by decide) (fun args w => by kernel_rfl) HAU.out (fun a w1 h1 => arg_any r a lv s T w1 h1 HE.out HT1.out)).mono ?_
 intro e w6 hp
 rcases (RulePost.two (p := argsC r T) hp) with ⟨k, hx, rfl, hm⟩ | ⟨q, j6, hx, q6, rfl, ht, hr, hm⟩
 ·have HM6 := Lib.hid (HM5.out.trans hm)
  have hX := bindM_err hx HX5.out
  clear hx hm
  subst hX
  unfold stopAt
  go_wp2_with fail
  exact ⟨rfl, rfl, HM6.out⟩
 have HX6 := Lib.hid (bindM_ok hx HX5.out)
 have HR6 := Lib.hid hr
 have HM6 := Lib.hid (HM5.out.trans hm)
 have HS6 := Lib.hid (HS5.out.mv hm HRB.out)
 have HTp6 := Lib.hid (HTp5.out.mvB hm HRB.out)
 have HTq6 : Hid (IsT (fun b => w.heap.size < b) w6 q6 q) := ht.mono (fun b hb => HS5.out.up hb)
 unfold ndC
 clear hp hx ht hr hm HX5 HR5 HM5 HS5 HTp5
 go_wp2_with fail
 refine (result_any r j6 lv s T w6 HR6.out HE.out HT1.out).mono ?_
 intro e w7 hp
 rcases (RulePost.two (p := resultP r T) hp) with ⟨k, hx, rfl, hm⟩ | ⟨o, j7, hx, q7, rfl, ht, hr, hm⟩
 ·have HM7 := Lib.hid (HM6.out.trans hm)
  have hX := bindM_err hx HX6.out
  clear hx hm
  subst hX
  unfold stopAt
  go_wp2_with fail
  exact ⟨rfl, rfl, HM7.out⟩
 have HX7 := Lib.hid (bindM_ok hx HX6.out)
 have HR7 := Lib.hid hr
 have HM7 := Lib.hid (HM6.out.trans hm)
 have HS7 := Lib.hid (HS6.out.mv hm HRB.out)
 have HTp7 := Lib.hid (HTp6.out.mvB hm HRB.out)
 have HTq7 := Lib.hid (HTq6.out.mvB hm HRB.out)
 have HTo7 : Hid (IsT (fun b => w.heap.size < b) w7 q7 o) := ht.mono (fun b hb => HS6.out.up hb)
 unfold ndC
 clear hp hx ht hr hm HX6 HR6 HM6 HS6 HTp6 HTq6
 go_wp2_with fail
 refine (HB1.out j7 w7 HR7.out).mono ?_
 intro e w8 hp
 rcases (RulePost.two (p := Bk) hp) with ⟨k, hx, rfl, hm⟩ | ⟨b, j8, hx, q8, rfl, ht, hr, hm⟩
 ·have HM8 := Lib.hid (HM7.out.trans hm)
  have hX := bindM_err hx HX7.out
  clear hx hm
  subst hX
  unfold stopAt
  go_wp2_with fail
  exact ⟨rfl, rfl, HM8.out⟩
 have HX8 := Lib.hid (bindM_ok hx HX7.out)
 have HR8 := Lib.hid hr
 have HM8 := Lib.hid (HM7.out.trans hm)
 have HS8 := Lib.hid (HS7.out.mv hm HRB.out)
 have HTp8 := Lib.hid (HTp7.out.mvB hm HRB.out)
 have HTq8 := Lib.hid (HTq7.out.mvB hm HRB.out)
 have HTo8 := Lib.hid (HTo7.out.mvB hm HRB.out)
 have HTb8 : Hid (IsT (fun b => w.heap.size < b) w8 q8 b) := ht.mono (fun b hb => HS7.out.up hb)
 unfold ndC
 clear hp hx ht hr hm HX7 HR7 HM7 HS7 HTp7 HTq7 HTo7
 go_wp2_with fail
 have hb := boxB w8 (.cells #[.int .i64 q5.kind, .string q5.text, .int .i64 q5.at_, .slice q5.p q5.n q5.cap, .int .i64 q6.kind, .string q6.text, .int .i64 q6.at_, .slice q6.p q6.n q6.cap, .int .i64 q7.kind, .string q7.text, .int .i64 q7.at_, .slice q7.p q7.n q7.cap, .int .i64 q8.kind, .string q8.text, .int .i64 q8.at_, .slice q8.p q8.n q8.cap] 37)
 have hm : Mv r w8 (w8.alloc (.cells #[.int .i64 q5.kind, .string q5.text, .int .i64 q5.at_, .slice q5.p q5.n q5.cap, .int .i64 q6.kind, .string q6.text, .int .i64 q6.at_, .slice q6.p q6.n q6.cap, .int .i64 q7.kind, .string q7.text, .int .i64 q7.at_, .slice q7.p q7.n q7.cap, .int .i64 q8.kind, .string q8.text, .int .i64 q8.at_, .slice q8.p q8.n q8.cap] 37)) := Mv.of_below hb
 have HR9 := Lib.hid (HR8.out.below hb)
 have HM9 := Lib.hid (HM8.out.trans hm)
 have HS9 := Lib.hid (HS8.out.mv hm HRB.out)
 have hlt := lt_heap HS8.out.z
 have HL9 : Hid (IsTs (fun b => w.heap.size < b) (w8.alloc (.cells #[.int .i64 q5.kind, .string q5.text, .int .i64 q5.at_, .slice q5.p q5.n q5.cap, .int .i64 q6.kind, .string q6.text, .int .i64 q6.at_, .slice q6.p q6.n q6.cap, .int .i64 q7.kind, .string q7.text, .int .i64 q7.at_, .slice q7.p q7.n q7.cap, .int .i64 q8.kind, .string q8.text, .int .i64 q8.at_, .slice q8.p q8.n q8.cap] 37)) (.slice (some ⟨w8.heap.size, 0, none⟩) 4 4) [p, q, o, b]) := by
  refine IsTs.row _ [q5, q6, q7, q8] _ rfl rfl rfl (by decide) (by decide) hlt (fun i h1 h2 => ?_)
  match i, h1, h2 with
  | 0, _, _ => exact HTp8.out
  | 1, _, _ => exact HTq8.out
  | 2, _, _ => exact HTo8.out
  | 3, _, _ => exact HTb8.out
  | i + 4, h1, _ => exact absurd h1 (by simp)
 clear hb hm hlt HR8 HM8 HS8 HTp8 HTq8 HTo8 HTb8
 have HX9 := HX8
 clear HX8
 obtain ⟨g9, hg9⟩ : ∃ g, w8.heap.size = g := ⟨_, rfl⟩
 clear hg9
 generalize w8.alloc (.cells #[.int .i64 q5.kind, .string q5.text, .int .i64 q5.at_, .slice q5.p q5.n q5.cap, .int .i64 q6.kind, .string q6.text, .int .i64 q6.at_, .slice q6.p q6.n q6.cap, .int .i64 q7.kind, .string q7.text, .int .i64 q7.at_, .slice q7.p q7.n q7.cap, .int .i64 q8.kind, .string q8.text, .int .i64 q8.at_, .slice q8.p q8.n q8.cap] 37) = w9 at *
 refine (node_any 4 nm a (some ⟨w8.heap.size, 0, none⟩) 4 4 w9).mono ?_
 rintro e w10 ⟨rfl, hb⟩
 have hm : Mv r w9 w10 := Mv.of_below hb
 have HX10 := HX9
 have HR10 := Lib.hid (HR9.out.below hb)
 have HM10 := Lib.hid (HM9.out.trans hm)
 have HS10 := Lib.hid (HS9.out.mv hm HRB.out)
 have HL10 := Lib.hid (HL9.out.mvB hm HRB.out)
 clear hb hm HX9 HR9 HM9 HS9 HL9
 have HW := Lib.hid (res_world r j8 lv s w w10 ⟨4, nm, a, some ⟨w8.heap.size, 0, none⟩, 4, 4⟩ (.mk 4 nm a [p, q, o, b]) HRB.out HM10.out HS10.out.z (IsT.node _ _ _ HL10.out) HR10.out)
 obtain ⟨d0, d1, d2, d3, f0⟩ := HS10.out.cells
 have hX : Except.ok ((.mk 4 nm a [p, q, o, b]), j8) = X := HX10.out
 clear HX10
 subst hX
 (try unfold ndC)
 go_wp2_with fail
 obtain ⟨hcell, hist, hrd, hmv⟩ := HW.out
 exact bodyPost_ret (results_cellT rfl _ _ _ ⟨w.heap.size, 0, none⟩ _ rfl (load_node _ _ ⟨4, nm, a, some ⟨w8.heap.size, 0, none⟩, 4, 4⟩ hcell)) rfl ⟨_, rfl, hist, hrd, hmv⟩
set_option maxRecDepth 100000 in
set_option maxHeartbeats 1000000 in
theorem constant_any (r : Rdr) (i lv : Nat) (s : Bool) (T E : PM Tree) (w : World) (h : RdAt r i lv s w) (hE : EndAt r)
  (HTY : ∀ a w1, RdAt r a lv s w1 → Calls Tryz.prog 60 #[.pointer (some ⟨r.b, 0, none⟩)] w1 (RulePost r (T a) lv s w1))
  (HEX : ∀ a w1, RdAt r a lv s w1 → Calls Tryz.prog 61 #[.pointer (some ⟨r.b, 0, none⟩)] w1 (RulePost r (E a) lv s w1)) :
  Calls Tryz.prog 42 #[.pointer (some ⟨r.b, 0, none⟩)] w (RulePost r (constantM r T E i) lv s w) := by
 have HRB : Hid (r.b < w.heap.size) := lt_heap h.cells
 have HR1 := Lib.hid (h.below (boxB w (.cells #[.int .i64 0, .string ⟨#[]⟩, .int .i64 0, .slice none 0 0] 37)))
 have HM1 := Lib.hid (Mv.of_below (r := r) (boxB w (.cells #[.int .i64 0, .string ⟨#[]⟩, .int .i64 0, .slice none 0 0] 37)))
 have HS1 := Lib.hid (ResAt.start w)
 generalize hX0 : constantM r T E i = X
 unfold constantM at hX0
 have HX1 := Lib.hid hX0
 have HE := Lib.hid hE
 have HT1 := Lib.hid HTY
 have HE1 := Lib.hid HEX
 clear hX0 h hE HTY HEX
 go_enter Tryz.func42, Tryz.ntmps42
 go_wp2_with fail
 generalize w.alloc (.cells #[.int .i64 0, .string ⟨#[]⟩, .int .i64 0, .slice none 0 0] 37) = w1 at *
 refine (here_x r i lv s w1 HR1.out).mono ?_
 rintro e w2 ⟨a, j2, hx, rfl, hr, hm⟩
 have HX2 := Lib.hid (bindM_ok hx HX1.out)
 have HR2 := Lib.hid hr
 have HM2 := Lib.hid (HM1.out.trans hm)
 have HS2 := Lib.hid (HS1.out.mv hm HRB.out)
 clear hx hr hm HX1 HR1 HM1 HS1
 go_wp2_with fail
 refine (need_x r j2 lv s ⟨#[99, 111, 110, 115, 116]⟩ w2 HR2.out HE.out (by decide)).mono ?_
 rintro e w3 (⟨k, hx, rfl, hm⟩ | ⟨_, j3, hx, rfl, hr, hm⟩)
 ·have HM3 := Lib.hid (HM2.out.trans hm)
  have hX := bindM_err hx HX2.out
  clear hx hm
  subst hX
  unfold stopAt
  go_wp2_with fail
  exact ⟨rfl, rfl, HM3.out⟩
 have HX3 := Lib.hid (bindM_ok hx HX2.out)
 have HR3 := Lib.hid hr
 have HM3 := Lib.hid (HM2.out.trans hm)
 have HS3 := Lib.hid (HS2.out.mv hm HRB.out)
 clear hx hr hm HX2 HR2 HM2 HS2
 go_wp2_with fail
 refine (name_x r j3 lv s w3 HR3.out HE.out).mono ?_
 rintro e w4 (⟨k, hx, rfl, hm⟩ | ⟨nm, j4, hx, rfl, hr, hm⟩)
 ·have HM4 := Lib.hid (HM3.out.trans hm)
  have hX := bindM_err hx HX3.out
  clear hx hm
  subst hX
  unfold stopAt
  go_wp2_with fail
  exact ⟨rfl, rfl, HM4.out⟩
 have HX4 := Lib.hid (bindM_ok hx HX3.out)
 have HR4 := Lib.hid hr
 have HM4 := Lib.hid (HM3.out.trans hm)
 have HS4 := Lib.hid (HS3.out.mv hm HRB.out)
 clear hx hr hm HX3 HR3 HM3 HS3
 go_wp2_with fail
 refine (need_x r j4 lv s ⟨#[58]⟩ w4 HR4.out HE.out (by decide)).mono ?_
 rintro e w5 (⟨k, hx, rfl, hm⟩ | ⟨_, j5, hx, rfl, hr, hm⟩)
 ·have HM5 := Lib.hid (HM4.out.trans hm)
  have hX := bindM_err hx HX4.out
  clear hx hm
  subst hX
  unfold stopAt
  go_wp2_with fail
  exact ⟨rfl, rfl, HM5.out⟩
 have HX5 := Lib.hid (bindM_ok hx HX4.out)
 have HR5 := Lib.hid hr
 have HM5 := Lib.hid (HM4.out.trans hm)
 have HS5 := Lib.hid (HS4.out.mv hm HRB.out)
 clear hx hr hm HX4 HR4 HM4 HS4
 go_wp2_with fail
 refine (HT1.out j5 w5 HR5.out).mono ?_
 intro e w6 hp
 rcases (RulePost.two (p := T) hp) with ⟨k, hx, rfl, hm⟩ | ⟨o, j6, hx, q6, rfl, ht, hr, hm⟩
 ·have HM6 := Lib.hid (HM5.out.trans hm)
  have hX := bindM_err hx HX5.out
  clear hx hm
  subst hX
  unfold stopAt
  go_wp2_with fail
  exact ⟨rfl, rfl, HM6.out⟩
 have HX6 := Lib.hid (bindM_ok hx HX5.out)
 have HR6 := Lib.hid hr
 have HM6 := Lib.hid (HM5.out.trans hm)
 have HS6 := Lib.hid (HS5.out.mv hm HRB.out)
 have HTo6 : Hid (IsT (fun b => w.heap.size < b) w6 q6 o) := ht.mono (fun b hb => HS5.out.up hb)
 unfold ndC
 clear hp hx ht hr hm HX5 HR5 HM5 HS5
 go_wp2_with fail
 have hb := boxB w6 (.cells #[.int .i64 q6.kind, .string q6.text, .int .i64 q6.at_, .slice q6.p q6.n q6.cap] 37)
 have hm : Mv r w6 (w6.alloc (.cells #[.int .i64 q6.kind, .string q6.text, .int .i64 q6.at_, .slice q6.p q6.n q6.cap] 37)) := Mv.of_below hb
 have HX7 := HX6
 have HR7 := Lib.hid (HR6.out.below hb)
 have HM7 := Lib.hid (HM6.out.trans hm)
 have HS7 := Lib.hid (HS6.out.mv hm HRB.out)
 have HTo7 := Lib.hid (HTo6.out.mvB hm HRB.out)
 have HBo7 : Hid (BoxAt r w w6.heap.size q6 (w6.alloc (.cells #[.int .i64 q6.kind, .string q6.text, .int .i64 q6.at_, .slice q6.p q6.n q6.cap] 37))) := ⟨heap_alloc_new w6 _, HS6.out.up (Nat.le_refl _), HRB.out⟩
 clear hb hm HX6 HR6 HM6 HS6 HTo6
 obtain ⟨go, hgo⟩ : ∃ g, w6.heap.size = g := ⟨_, rfl⟩
 rw [hgo] at HBo7
 generalize w6.alloc (.cells #[.int .i64 q6.kind, .string q6.text, .int .i64 q6.at_, .slice q6.p q6.n q6.cap] 37) = w7 at *
 rw [hgo]
 clear hgo
 refine (need_x r j6 lv s ⟨#[61]⟩ w7 HR7.out HE.out (by decide)).mono ?_
 rintro e w8 (⟨k, hx, rfl, hm⟩ | ⟨_, j8, hx, rfl, hr, hm⟩)
 ·have HM8 := Lib.hid (HM7.out.trans hm)
  have hX := bindM_err hx HX7.out
  clear hx hm
  subst hX
  unfold stopAt
  go_wp2_with fail
  exact ⟨rfl, rfl, HM8.out⟩
 have HX8 := Lib.hid (bindM_ok hx HX7.out)
 have HR8 := Lib.hid hr
 have HM8 := Lib.hid (HM7.out.trans hm)
 have HS8 := Lib.hid (HS7.out.mv hm HRB.out)
 have HTo8 := Lib.hid (HTo7.out.mvB hm HRB.out)
 have HBo8 := Lib.hid (HBo7.out.mvB hm HRB.out)
 clear hx hr hm HX7 HR7 HM7 HS7 HTo7 HBo7
 go_wp2_with fail
 refine (HE1.out j8 w8 HR8.out).mono ?_
 intro e w9 hp
 rcases (RulePost.two (p := E) hp) with ⟨k, hx, rfl, hm⟩ | ⟨v, j9, hx, q9, rfl, ht, hr, hm⟩
 ·have HM9 := Lib.hid (HM8.out.trans hm)
  have hX := bindM_err hx HX8.out
  clear hx hm
  subst hX
  unfold stopAt
  go_wp2_with fail
  exact ⟨rfl, rfl, HM9.out⟩
 have HX9 := Lib.hid (bindM_ok hx HX8.out)
 have HR9 := Lib.hid hr
 have HM9 := Lib.hid (HM8.out.trans hm)
 have HS9 := Lib.hid (HS8.out.mv hm HRB.out)
 have HTo9 := Lib.hid (HTo8.out.mvB hm HRB.out)
 have HBo9 := Lib.hid (HBo8.out.mvB hm HRB.out)
 have HTv9 : Hid (IsT (fun b => w.heap.size < b) w9 q9 v) := ht.mono (fun b hb => HS8.out.up hb)
 unfold ndC
 clear hp hx ht hr hm HX8 HR8 HM8 HS8 HTo8 HBo8
 go_wp2_with fail
 have hb := boxB w9 (.cells #[.int .i64 q9.kind, .string q9.text, .int .i64 q9.at_, .slice q9.p q9.n q9.cap] 37)
 have hm : Mv r w9 (w9.alloc (.cells #[.int .i64 q9.kind, .string q9.text, .int .i64 q9.at_, .slice q9.p q9.n q9.cap] 37)) := Mv.of_below hb
 have HX10 := HX9
 have HR10 := Lib.hid (HR9.out.below hb)
 have HM10 := Lib.hid (HM9.out.trans hm)
 have HS10 := Lib.hid (HS9.out.mv hm HRB.out)
 have HTo10 := Lib.hid (HTo9.out.mvB hm HRB.out)
 have HBo10 := Lib.hid (HBo9.out.mvB hm HRB.out)
 have HTv10 := Lib.hid (HTv9.out.mvB hm HRB.out)
 have HBv10 : Hid (BoxAt r w w9.heap.size q9 (w9.alloc (.cells #[.int .i64 q9.kind, .string q9.text, .int .i64 q9.at_, .slice q9.p q9.n q9.cap] 37))) := ⟨heap_alloc_new w9 _, HS9.out.up (Nat.le_refl _), HRB.out⟩
 clear hb hm HX9 HR9 HM9 HS9 HTo9 HBo9 HTv9
 obtain ⟨gv, hgv⟩ : ∃ g, w9.heap.size = g := ⟨_, rfl⟩
 rw [hgv] at HBv10
 generalize w9.alloc (.cells #[.int .i64 q9.kind, .string q9.text, .int .i64 q9.at_, .slice q9.p q9.n q9.cap] 37) = w10 at *
 rw [hgv]
 clear hgv
 refine (need_x r j9 lv s ⟨#[59]⟩ w10 HR10.out HE.out (by decide)).mono ?_
 rintro e w11 (⟨k, hx, rfl, hm⟩ | ⟨_, j11, hx, rfl, hr, hm⟩)
 ·have HM11 := Lib.hid (HM10.out.trans hm)
  have hX := bindM_err hx HX10.out
  clear hx hm
  subst hX
  unfold stopAt
  go_wp2_with fail
  exact ⟨rfl, rfl, HM11.out⟩
 have HX11 := Lib.hid (bindM_ok hx HX10.out)
 have HR11 := Lib.hid hr
 have HM11 := Lib.hid (HM10.out.trans hm)
 have HS11 := Lib.hid (HS10.out.mv hm HRB.out)
 have HTo11 := Lib.hid (HTo10.out.mvB hm HRB.out)
 have HBo11 := Lib.hid (HBo10.out.mvB hm HRB.out)
 have HTv11 := Lib.hid (HTv10.out.mvB hm HRB.out)
 have HBv11 := Lib.hid (HBv10.out.mvB hm HRB.out)
 clear hx hr hm HX10 HR10 HM10 HS10 HTo10 HBo10 HTv10 HBv10
 obtain ⟨b0o, b1o, b2o, b3o⟩ := HBo11.out.cells
 obtain ⟨b0v, b1v, b2v, b3v⟩ := HBv11.out.cells
 go_wp2_with fail
 have hb := boxB w11 (.cells #[.int .i64 q6.kind, .string q6.text, .int .i64 q6.at_, .slice q6.p q6.n q6.cap, .int .i64 q9.kind, .string q9.text, .int .i64 q9.at_, .slice q9.p q9.n q9.cap] 37)
 have hm : Mv r w11 (w11.alloc (.cells #[.int .i64 q6.kind, .string q6.text, .int .i64 q6.at_, .slice q6.p q6.n q6.cap, .int .i64 q9.kind, .string q9.text, .int .i64 q9.at_, .slice q9.p q9.n q9.cap] 37)) := Mv.of_below hb
 have HR12 := Lib.hid (HR11.out.below hb)
 have HM12 := Lib.hid (HM11.out.trans hm)
 have HS12 := Lib.hid (HS11.out.mv hm HRB.out)
 have hlt := lt_heap HS11.out.z
 have HL12 : Hid (IsTs (fun b => w.heap.size < b) (w11.alloc (.cells #[.int .i64 q6.kind, .string q6.text, .int .i64 q6.at_, .slice q6.p q6.n q6.cap, .int .i64 q9.kind, .string q9.text, .int .i64 q9.at_, .slice q9.p q9.n q9.cap] 37)) (.slice (some ⟨w11.heap.size, 0, none⟩) 2 2) [o, v]) := by
  refine IsTs.row _ [q6, q9] _ rfl rfl rfl (by decide) (by decide) hlt (fun i h1 h2 => ?_)
  match i, h1, h2 with
  | 0, _, _ => exact HTo11.out
  | 1, _, _ => exact HTv11.out
  | i + 2, h1, _ => exact absurd h1 (by simp)
 clear hb hm hlt HR11 HM11 HS11 HTo11 HBo11 HTv11 HBv11
 have HX12 := HX11
 clear HX11
 obtain ⟨g12, hg12⟩ : ∃ g, w11.heap.size = g := ⟨_, rfl⟩
 clear hg12
 generalize w11.alloc (.cells #[.int .i64 q6.kind, .string q6.text, .int .i64 q6.at_, .slice q6.p q6.n q6.cap, .int .i64 q9.kind, .string q9.text, .int .i64 q9.at_, .slice q9.p q9.n q9.cap] 37) = w12 at *
 refine (node_any 3 nm a (some ⟨w11.heap.size, 0, none⟩) 2 2 w12).mono ?_
 rintro e w13 ⟨rfl, hb⟩
 have hm : Mv r w12 w13 := Mv.of_below hb
 have HX13 := HX12
 have HR13 := Lib.hid (HR12.out.below hb)
 have HM13 := Lib.hid (HM12.out.trans hm)
 have HS13 := Lib.hid (HS12.out.mv hm HRB.out)
 have HL13 := Lib.hid (HL12.out.mvB hm HRB.out)
 clear hb hm HX12 HR12 HM12 HS12 HL12
 have HW := Lib.hid (res_world r j11 lv s w w13 ⟨3, nm, a, some ⟨w11.heap.size, 0, none⟩, 2, 2⟩ (.mk 3 nm a [o, v]) HRB.out HM13.out HS13.out.z (IsT.node _ _ _ HL13.out) HR13.out)
 obtain ⟨d0, d1, d2, d3, f0⟩ := HS13.out.cells
 have hX : Except.ok ((.mk 3 nm a [o, v]), j11) = X := HX13.out
 clear HX13
 subst hX
 (try unfold ndC)
 go_wp2_with fail
 obtain ⟨hcell, hist, hrd, hmv⟩ := HW.out
 exact bodyPost_ret (results_cellT rfl _ _ _ ⟨w.heap.size, 0, none⟩ _ rfl (load_node _ _ ⟨3, nm, a, some ⟨w11.heap.size, 0, none⟩, 2, 2⟩ hcell)) rfl ⟨_, rfl, hist, hrd, hmv⟩
set_option maxRecDepth 100000 in
set_option maxHeartbeats 1000000 in
theorem macro_any (r : Rdr) (i lv : Nat) (s : Bool) (E : PM Tree) (w : World) (h : RdAt r i lv s w) (hE : EndAt r)
  (HEX : ∀ a w1, RdAt r a lv s w1 → Calls Tryz.prog 61 #[.pointer (some ⟨r.b, 0, none⟩)] w1 (RulePost r (E a) lv s w1)) :
  Calls Tryz.prog 47 #[.pointer (some ⟨r.b, 0, none⟩)] w (RulePost r (macroM r E i) lv s w) := by
 have HRB : Hid (r.b < w.heap.size) := lt_heap h.cells
 have HR1 := Lib.hid (h.below (boxB w (.cells #[.int .i64 0, .string ⟨#[]⟩, .int .i64 0, .slice none 0 0] 37)))
 have HM1 := Lib.hid (Mv.of_below (r := r) (boxB w (.cells #[.int .i64 0, .string ⟨#[]⟩, .int .i64 0, .slice none 0 0] 37)))
 have HS1 := Lib.hid (ResAt.start w)
 generalize hX0 : macroM r E i = X
 unfold macroM at hX0
 have HX1 := Lib.hid hX0
 have HE := Lib.hid hE
 have HE1 := Lib.hid HEX
 clear hX0 h hE HEX
 go_enter Tryz.func47, Tryz.ntmps47
 go_wp2_with fail
 generalize w.alloc (.cells #[.int .i64 0, .string ⟨#[]⟩, .int .i64 0, .slice none 0 0] 37) = w1 at *
 refine (here_x r i lv s w1 HR1.out).mono ?_
 rintro e w2 ⟨a, j2, hx, rfl, hr, hm⟩
 have HX2 := Lib.hid (bindM_ok hx HX1.out)
 have HR2 := Lib.hid hr
 have HM2 := Lib.hid (HM1.out.trans hm)
 have HS2 := Lib.hid (HS1.out.mv hm HRB.out)
 clear hx hr hm HX1 HR1 HM1 HS1
 go_wp2_with fail
 refine (need_x r j2 lv s ⟨#[109, 97, 99, 114, 111]⟩ w2 HR2.out HE.out (by decide)).mono ?_
 rintro e w3 (⟨k, hx, rfl, hm⟩ | ⟨_, j3, hx, rfl, hr, hm⟩)
 ·have HM3 := Lib.hid (HM2.out.trans hm)
  have hX := bindM_err hx HX2.out
  clear hx hm
  subst hX
  unfold stopAt
  go_wp2_with fail
  exact ⟨rfl, rfl, HM3.out⟩
 have HX3 := Lib.hid (bindM_ok hx HX2.out)
 have HR3 := Lib.hid hr
 have HM3 := Lib.hid (HM2.out.trans hm)
 have HS3 := Lib.hid (HS2.out.mv hm HRB.out)
 clear hx hr hm HX2 HR2 HM2 HS2
 go_wp2_with fail
 refine (name_x r j3 lv s w3 HR3.out HE.out).mono ?_
 rintro e w4 (⟨k, hx, rfl, hm⟩ | ⟨nm, j4, hx, rfl, hr, hm⟩)
 ·have HM4 := Lib.hid (HM3.out.trans hm)
  have hX := bindM_err hx HX3.out
  clear hx hm
  subst hX
  unfold stopAt
  go_wp2_with fail
  exact ⟨rfl, rfl, HM4.out⟩
 have HX4 := Lib.hid (bindM_ok hx HX3.out)
 have HR4 := Lib.hid hr
 have HM4 := Lib.hid (HM3.out.trans hm)
 have HS4 := Lib.hid (HS3.out.mv hm HRB.out)
 clear hx hr hm HX3 HR3 HM3 HS3
 go_wp2_with fail
 refine (args_any r j4 lv s ⟨#[40]⟩ ⟨#[41]⟩ 71 (nameP r) w4 HR4.out HE.out (by decide) (by decide) (fun args w => by kernel_rfl) (fun a t b h => nameP_mono a t b h) (fun a w1 h1 => nameNode_any r a lv s w1 h1 HE.out)).mono ?_
 intro e w5 hp
 rcases (RulePost.two (p := argsP r ⟨#[40]⟩ ⟨#[41]⟩ (nameP r)) hp) with ⟨k, hx, rfl, hm⟩ | ⟨q, j5, hx, q5, rfl, ht, hr, hm⟩
 ·have HM5 := Lib.hid (HM4.out.trans hm)
  have hX := bindM_err hx HX4.out
  clear hx hm
  subst hX
  unfold stopAt
  go_wp2_with fail
  exact ⟨rfl, rfl, HM5.out⟩
 have HX5 := Lib.hid (bindM_ok hx HX4.out)
 have HR5 := Lib.hid hr
 have HM5 := Lib.hid (HM4.out.trans hm)
 have HS5 := Lib.hid (HS4.out.mv hm HRB.out)
 have HTq5 : Hid (IsT (fun b => w.heap.size < b) w5 q5 q) := ht.mono (fun b hb => HS4.out.up hb)
 unfold ndC
 clear hp hx ht hr hm HX4 HR4 HM4 HS4
 go_wp2_with fail
 have hb := boxB w5 (.cells #[.int .i64 q5.kind, .string q5.text, .int .i64 q5.at_, .slice q5.p q5.n q5.cap] 37)
 have hm : Mv r w5 (w5.alloc (.cells #[.int .i64 q5.kind, .string q5.text, .int .i64 q5.at_, .slice q5.p q5.n q5.cap] 37)) := Mv.of_below hb
 have HX6 := HX5
 have HR6 := Lib.hid (HR5.out.below hb)
 have HM6 := Lib.hid (HM5.out.trans hm)
 have HS6 := Lib.hid (HS5.out.mv hm HRB.out)
 have HTq6 := Lib.hid (HTq5.out.mvB hm HRB.out)
 have HBq6 : Hid (BoxAt r w w5.heap.size q5 (w5.alloc (.cells #[.int .i64 q5.kind, .string q5.text, .int .i64 q5.at_, .slice q5.p q5.n q5.cap] 37))) := ⟨heap_alloc_new w5 _, HS5.out.up (Nat.le_refl _), HRB.out⟩
 clear hb hm HX5 HR5 HM5 HS5 HTq5
 obtain ⟨gq, hgq⟩ : ∃ g, w5.heap.size = g := ⟨_, rfl⟩
 rw [hgq] at HBq6
 generalize w5.alloc (.cells #[.int .i64 q5.kind, .string q5.text, .int .i64 q5.at_, .slice q5.p q5.n q5.cap] 37) = w6 at *
 rw [hgq]
 clear hgq
 refine (need_x r j5 lv s ⟨#[61]⟩ w6 HR6.out HE.out (by decide)).mono ?_
 rintro e w7 (⟨k, hx, rfl, hm⟩ | ⟨_, j7, hx, rfl, hr, hm⟩)
 ·have HM7 := Lib.hid (HM6.out.trans hm)
  have hX := bindM_err hx HX6.out
  clear hx hm
  subst hX
  unfold stopAt
  go_wp2_with fail
  exact ⟨rfl, rfl, HM7.out⟩
 have HX7 := Lib.hid (bindM_ok hx HX6.out)
 have HR7 := Lib.hid hr
 have HM7 := Lib.hid (HM6.out.trans hm)
 have HS7 := Lib.hid (HS6.out.mv hm HRB.out)
 have HTq7 := Lib.hid (HTq6.out.mvB hm HRB.out)
 have HBq7 := Lib.hid (HBq6.out.mvB hm HRB.out)
 clear hx hr hm HX6 HR6 HM6 HS6 HTq6 HBq6
 go_wp2_with fail
 refine (HE1.out j7 w7 HR7.out).mono ?_
 intro e w8 hp
 rcases (RulePost.two (p := E) hp) with ⟨k, hx, rfl, hm⟩ | ⟨v, j8, hx, q8, rfl, ht, hr, hm⟩
 ·have HM8 := Lib.hid (HM7.out.trans hm)
  have hX := bindM_err hx HX7.out
  clear hx hm
  subst hX
  unfold stopAt
  go_wp2_with fail
  exact ⟨rfl, rfl, HM8.out⟩
 have HX8 := Lib.hid (bindM_ok hx HX7.out)
 have HR8 := Lib.hid hr
 have HM8 := Lib.hid (HM7.out.trans hm)
 have HS8 := Lib.hid (HS7.out.mv hm HRB.out)
 have HTq8 := Lib.hid (HTq7.out.mvB hm HRB.out)
 have HBq8 := Lib.hid (HBq7.out.mvB hm HRB.out)
 have HTv8 : Hid (IsT (fun b => w.heap.size < b) w8 q8 v) := ht.mono (fun b hb => HS7.out.up hb)
 unfold ndC
 clear hp hx ht hr hm HX7 HR7 HM7 HS7 HTq7 HBq7
 go_wp2_with fail
 have hb := boxB w8 (.cells #[.int .i64 q8.kind, .string q8.text, .int .i64 q8.at_, .slice q8.p q8.n q8.cap] 37)
 have hm : Mv r w8 (w8.alloc (.cells #[.int .i64 q8.kind, .string q8.text, .int .i64 q8.at_, .slice q8.p q8.n q8.cap] 37)) := Mv.of_below hb
 have HX9 := HX8
 have HR9 := Lib.hid (HR8.out.below hb)
 have HM9 := Lib.hid (HM8.out.trans hm)
 have HS9 := Lib.hid (HS8.out.mv hm HRB.out)
 have HTq9 := Lib.hid (HTq8.out.mvB hm HRB.out)
 have HBq9 := Lib.hid (HBq8.out.mvB hm HRB.out)
 have HTv9 := Lib.hid (HTv8.out.mvB hm HRB.out)
 have HBv9 : Hid (BoxAt r w w8.heap.size q8 (w8.alloc (.cells #[.int .i64 q8.kind, .string q8.text, .int .i64 q8.at_, .slice q8.p q8.n q8.cap] 37))) := ⟨heap_alloc_new w8 _, HS8.out.up (Nat.le_refl _), HRB.out⟩
 clear hb hm HX8 HR8 HM8 HS8 HTq8 HBq8 HTv8
 obtain ⟨gv, hgv⟩ : ∃ g, w8.heap.size = g := ⟨_, rfl⟩
 rw [hgv] at HBv9
 generalize w8.alloc (.cells #[.int .i64 q8.kind, .string q8.text, .int .i64 q8.at_, .slice q8.p q8.n q8.cap] 37) = w9 at *
 rw [hgv]
 clear hgv
 refine (need_x r j8 lv s ⟨#[59]⟩ w9 HR9.out HE.out (by decide)).mono ?_
 rintro e w10 (⟨k, hx, rfl, hm⟩ | ⟨_, j10, hx, rfl, hr, hm⟩)
 ·have HM10 := Lib.hid (HM9.out.trans hm)
  have hX := bindM_err hx HX9.out
  clear hx hm
  subst hX
  unfold stopAt
  go_wp2_with fail
  exact ⟨rfl, rfl, HM10.out⟩
 have HX10 := Lib.hid (bindM_ok hx HX9.out)
 have HR10 := Lib.hid hr
 have HM10 := Lib.hid (HM9.out.trans hm)
 have HS10 := Lib.hid (HS9.out.mv hm HRB.out)
 have HTq10 := Lib.hid (HTq9.out.mvB hm HRB.out)
 have HBq10 := Lib.hid (HBq9.out.mvB hm HRB.out)
 have HTv10 := Lib.hid (HTv9.out.mvB hm HRB.out)
 have HBv10 := Lib.hid (HBv9.out.mvB hm HRB.out)
 clear hx hr hm HX9 HR9 HM9 HS9 HTq9 HBq9 HTv9 HBv9
 obtain ⟨b0q, b1q, b2q, b3q⟩ := HBq10.out.cells
 obtain ⟨b0v, b1v, b2v, b3v⟩ := HBv10.out.cells
 go_wp2_with fail
 have hb := boxB w10 (.cells #[.int .i64 q5.kind, .string q5.text, .int .i64 q5.at_, .slice q5.p q5.n q5.cap, .int .i64 q8.kind, .string q8.text, .int .i64 q8.at_, .slice q8.p q8.n q8.cap] 37)
 have hm : Mv r w10 (w10.alloc (.cells #[.int .i64 q5.kind, .string q5.text, .int .i64 q5.at_, .slice q5.p q5.n q5.cap, .int .i64 q8.kind, .string q8.text, .int .i64 q8.at_, .slice q8.p q8.n q8.cap] 37)) := Mv.of_below hb
 have HR11 := Lib.hid (HR10.out.below hb)
 have HM11 := Lib.hid (HM10.out.trans hm)
 have HS11 := Lib.hid (HS10.out.mv hm HRB.out)
 have hlt := lt_heap HS10.out.z
 have HL11 : Hid (IsTs (fun b => w.heap.size < b) (w10.alloc (.cells #[.int .i64 q5.kind, .string q5.text, .int .i64 q5.at_, .slice q5.p q5.n q5.cap, .int .i64 q8.kind, .string q8.text, .int .i64 q8.at_, .slice q8.p q8.n q8.cap] 37)) (.slice (some ⟨w10.heap.size, 0, none⟩) 2 2) [q, v]) := by
  refine IsTs.row _ [q5, q8] _ rfl rfl rfl (by decide) (by decide) hlt (fun i h1 h2 => ?_)
  match i, h1, h2 with
  | 0, _, _ => exact HTq10.out
  | 1, _, _ => exact HTv10.out
  | i + 2, h1, _ => exact absurd h1 (by simp)
 clear hb hm hlt HR10 HM10 HS10 HTq10 HBq10 HTv10 HBv10
 have HX11 := HX10
 clear HX10
 obtain ⟨g11, hg11⟩ : ∃ g, w10.heap.size = g := ⟨_, rfl⟩
 clear hg11
 generalize w10.alloc (.cells #[.int .i64 q5.kind, .string q5.text, .int .i64 q5.at_, .slice q5.p q5.n q5.cap, .int .i64 q8.kind, .string q8.text, .int .i64 q8.at_, .slice q8.p q8.n q8.cap] 37) = w11 at *
 refine (node_any 8 nm a (some ⟨w10.heap.size, 0, none⟩) 2 2 w11).mono ?_
 rintro e w12 ⟨rfl, hb⟩
 have hm : Mv r w11 w12 := Mv.of_below hb
 have HX12 := HX11
 have HR12 := Lib.hid (HR11.out.below hb)
 have HM12 := Lib.hid (HM11.out.trans hm)
 have HS12 := Lib.hid (HS11.out.mv hm HRB.out)
 have HL12 := Lib.hid (HL11.out.mvB hm HRB.out)
 clear hb hm HX11 HR11 HM11 HS11 HL11
 have HW := Lib.hid (res_world r j10 lv s w w12 ⟨8, nm, a, some ⟨w10.heap.size, 0, none⟩, 2, 2⟩ (.mk 8 nm a [q, v]) HRB.out HM12.out HS12.out.z (IsT.node _ _ _ HL12.out) HR12.out)
 obtain ⟨d0, d1, d2, d3, f0⟩ := HS12.out.cells
 have hX : Except.ok ((.mk 8 nm a [q, v]), j10) = X := HX12.out
 clear HX12
 subst hX
 (try unfold ndC)
 go_wp2_with fail
 obtain ⟨hcell, hist, hrd, hmv⟩ := HW.out
 exact bodyPost_ret (results_cellT rfl _ _ _ ⟨w.heap.size, 0, none⟩ _ rfl (load_node _ _ ⟨8, nm, a, some ⟨w10.heap.size, 0, none⟩, 2, 2⟩ hcell)) rfl ⟨_, rfl, hist, hrd, hmv⟩
end Go.Proofs.YtheigpiffdabnaaGreat
namespace Go.Proofs.YtheigpiffdabnaaGreat
open Go Go.RowKit
theorem IsT.bin {A : Nat → Prop} {w : World} {g : Nat} {t : TypeId} {q1 q2 : Raw} {t1 t2 : Tree} (sg : ByteArray) (hg : w.heap[g]? = some (.cells (row2 q1 q2) t (0, 0))) (hA : A g) (h1 : IsT A w q1 t1) (h2 : IsT A w q2 t2) :
  IsT A w ⟨28, sg, q1.at_, some ⟨g, 0, none⟩, 2, 2⟩ (.mk 28 sg t1.at_ [t1, t2]) := by
 rw [← h1.parts.2.2.1]
 exact IsT.two 28 sg _ hg hA h1 h2
theorem one_is {P : Program} {C : World → World → Prop} {Pn : Ending → World → Prop} {c k : Nat} {v : Value} {w : World} (h : k ≠ c) : oneUpon P (sel (fun a b => a = b) C c k) Pn (tvIs v) w (.ok (.value v) w) := by
 refine ⟨?_, (), rfl, trivial⟩
 unfold sel
 rw [if_neg h]
/-- a node that a rule reads -/
def tvRule (r : Rdr) (w : World) (p : PM Tree) (i lv : Nat) (s : Bool) : TyV := ⟨Raw × Tree × Nat, ⟨(default, default, 0)⟩, fun x => .agg (ndC x.1), fun x W => p i = .ok (x.2.1, x.2.2) ∧ IsT (fun b => w.heap.size ≤ b) W x.1 x.2.1 ∧ RdAt r x.2.2 lv s W⟩
theorem tvRule_f (r : Rdr) (w : World) (p : PM Tree) (i lv : Nat) (s : Bool) (q : Raw) (t : Tree) (j : Nat) : (tvRule r w p i lv s).f (q, t, j) = .agg (ndC q) := rfl
theorem tvRule_good {C : World → World → Prop} {r : Rdr} {w : World} {p : PM Tree} {i lv : Nat} {s : Bool} {c : Nat} : Good (fun a b => a = b) C c c (tvRule r w p i lv s) := ⟨fun x w w' e h => by subst e; exact h, fun h => absurd rfl h⟩
theorem tvRule_upon {P : Program} {A : World → World → Prop} {r : Rdr} {wa W : World} {p : PM Tree} {i lv : Nat} {s : Bool} {c : Nat} {g : FuncId} {args : Array Value} (hm : Mv r wa W) (hc : Calls P g args W (RulePost r (p i) lv s W)) :
  oneUpon P (sel A (fun a b => Mv r a b) c c) (fun e x => ∃ k, p i = .error k ∧ e = stopAt k ∧ Mv r wa x) (tvRule r wa p i lv s) W (.ok (.enter g args) W) := by
 refine hc.mono ?_
 intro e w' hp
 rcases hp.two with ⟨k, hx, rfl, hm'⟩ | ⟨t, j, hx, q, rfl, ht, hr, hm'⟩
 ·exact .inr ⟨_, rfl, k, hx, rfl, hm.trans hm'⟩
 ·refine .inl ⟨(q, t, j), rfl, ?_, hx, ht.mono (fun b hb => ?_), hr⟩
  ·unfold sel
   rw [if_pos rfl]
   exact hm'
  ·exact Nat.le_trans hm.size hb
set_option maxRecDepth 100000 in
set_option maxHeartbeats 1000000 in
theorem sig_any (r : Rdr) (i lv : Nat) (s : Bool) (T : PM Tree) (w : World) (h : RdAt r i lv s w) (hE : EndAt r)
  (HTY : ∀ a w1, RdAt r a lv s w1 → Calls Tryz.prog 60 #[.pointer (some ⟨r.b, 0, none⟩)] w1 (RulePost r (T a) lv s w1))
  (hau : Up (argP r T)) :
  Calls Tryz.prog 69 #[.pointer (some ⟨r.b, 0, none⟩)] w (RulePost r (sigM r T i) lv s w) := by
 have HRB : Hid (r.b < w.heap.size) := lt_heap h.cells
 have HR1 := Lib.hid (h.below (boxB w (.cells #[.int .i64 0, .string ⟨#[]⟩, .int .i64 0, .slice none 0 0] 37)))
 have HM1 := Lib.hid (Mv.of_below (r := r) (boxB w (.cells #[.int .i64 0, .string ⟨#[]⟩, .int .i64 0, .slice none 0 0] 37)))
 have HS1 := Lib.hid (ResAt.start w)
 generalize hX0 : sigM r T i = X
 unfold sigM at hX0
 have HX1 := Lib.hid hX0
 have HE := Lib.hid hE
 have HT1 := Lib.hid HTY
 have HAU := Lib.hid hau
 clear hX0 h hE HTY hau
 go_enter Tryz.func69, Tryz.ntmps69
 go_wp2_with fail
 generalize w.alloc (.cells #[.int .i64 0, .string ⟨#[]⟩, .int .i64 0, .slice none 0 0] 37) = w1 at *
 refine (here_x r i lv s w1 HR1.out).mono ?_
 rintro e w2 ⟨a, j2, hx, rfl, hr, hm⟩
 have HX2 := Lib.hid (bindM_ok hx HX1.out)
 have HR2 := Lib.hid hr
 have HM2 := Lib.hid (HM1.out.trans hm)
 have HS2 := Lib.hid (HS1.out.mv hm HRB.out)
 clear hx hr hm HX1 HR1 HM1 HS1
 go_wp2_with fail
 refine (need_x r j2 lv s ⟨#[102, 110]⟩ w2 HR2.out HE.out (by decide)).mono ?_
 rintro e w3 (⟨k, hx, rfl, hm⟩ | ⟨_, j3, hx, rfl, hr, hm⟩)
 ·have HM3 := Lib.hid (HM2.out.trans hm)
  have hX := bindM_err hx HX2.out
  clear hx hm
  subst hX
  unfold stopAt
  go_wp2_with fail
  exact ⟨rfl, rfl, HM3.out⟩
 have HX3 := Lib.hid (bindM_ok hx HX2.out)
 have HR3 := Lib.hid hr
 have HM3 := Lib.hid (HM2.out.trans hm)
 have HS3 := Lib.hid (HS2.out.mv hm HRB.out)
 clear hx hr hm HX2 HR2 HM2 HS2
 go_wp2_with fail
 refine (name_x r j3 lv s w3 HR3.out HE.out).mono ?_
 rintro e w4 (⟨k, hx, rfl, hm⟩ | ⟨nm, j4, hx, rfl, hr, hm⟩)
 ·have HM4 := Lib.hid (HM3.out.trans hm)
  have hX := bindM_err hx HX3.out
  clear hx hm
  subst hX
  unfold stopAt
  go_wp2_with fail
  exact ⟨rfl, rfl, HM4.out⟩
 have HX4 := Lib.hid (bindM_ok hx HX3.out)
 have HR4 := Lib.hid hr
 have HM4 := Lib.hid (HM3.out.trans hm)
 have HS4 := Lib.hid (HS3.out.mv hm HRB.out)
 clear hx hr hm HX3 HR3 HM3 HS3
 go_wp2_with fail
 refine (args_any r j4 lv s ⟨#[40]⟩ ⟨#[41]⟩ 66 (argP r T) w4 HR4.out HE.out (by decide) (by decide) (fun args w => by kernel_rfl) HAU.out (fun a w1 h1 => arg_any r a lv s T w1 h1 HE.out HT1.out)).mono ?_
 intro e w5 hp
 rcases (RulePost.two (p := argsC r T) hp) with ⟨k, hx, rfl, hm⟩ | ⟨q, j5, hx, q5, rfl, ht, hr, hm⟩
 ·have HM5 := Lib.hid (HM4.out.trans hm)
  have hX := bindM_err hx HX4.out
  clear hx hm
  subst hX
  unfold stopAt
  go_wp2_with fail
  exact ⟨rfl, rfl, HM5.out⟩
 have HX5 := Lib.hid (bindM_ok hx HX4.out)
 have HR5 := Lib.hid hr
 have HM5 := Lib.hid (HM4.out.trans hm)
 have HS5 := Lib.hid (HS4.out.mv hm HRB.out)
 have HTq5 : Hid (IsT (fun b => w.heap.size < b) w5 q5 q) := ht.mono (fun b hb => HS4.out.up hb)
 unfold ndC
 clear hp hx ht hr hm HX4 HR4 HM4 HS4
 go_wp2_with fail
 refine (result_any r j5 lv s T w5 HR5.out HE.out HT1.out).mono ?_
 intro e w6 hp
 rcases (RulePost.two (p := resultP r T) hp) with ⟨k, hx, rfl, hm⟩ | ⟨o, j6, hx, q6, rfl, ht, hr, hm⟩
 ·have HM6 := Lib.hid (HM5.out.trans hm)
  have hX := bindM_err hx HX5.out
  clear hx hm
  subst hX
  unfold stopAt
  go_wp2_with fail
  exact ⟨rfl, rfl, HM6.out⟩
 have HX6 := Lib.hid (bindM_ok hx HX5.out)
 have HR6 := Lib.hid hr
 have HM6 := Lib.hid (HM5.out.trans hm)
 have HS6 := Lib.hid (HS5.out.mv hm HRB.out)
 have HTq6 := Lib.hid (HTq5.out.mvB hm HRB.out)
 have HTo6 : Hid (IsT (fun b => w.heap.size < b) w6 q6 o) := ht.mono (fun b hb => HS5.out.up hb)
 unfold ndC
 clear hp hx ht hr hm HX5 HR5 HM5 HS5 HTq5
 go_wp2_with fail
 have hb := bnext (boxB w6 (.cells #[.int .i64 q5.kind, .string q5.text, .int .i64 q5.at_, .slice q5.p q5.n q5.cap] 37)) (boxB _ (.cells #[.int .i64 q6.kind, .string q6.text, .int .i64 q6.at_, .slice q6.p q6.n q6.cap] 37))
 have hm : Mv r w6 ((w6.alloc (.cells #[.int .i64 q5.kind, .string q5.text, .int .i64 q5.at_, .slice q5.p q5.n q5.cap] 37)).alloc (.cells #[.int .i64 q6.kind, .string q6.text, .int .i64 q6.at_, .slice q6.p q6.n q6.cap] 37)) := Mv.of_below hb
 have HX7 := HX6
 have HR7 := Lib.hid (HR6.out.below hb)
 have HM7 := Lib.hid (HM6.out.trans hm)
 have HS7 := Lib.hid (HS6.out.mv hm HRB.out)
 have HTq7 := Lib.hid (HTq6.out.mvB hm HRB.out)
 have HTo7 := Lib.hid (HTo6.out.mvB hm HRB.out)
 have HBq7 : Hid (BoxAt r w w6.heap.size q5 ((w6.alloc (.cells #[.int .i64 q5.kind, .string q5.text, .int .i64 q5.at_, .slice q5.p q5.n q5.cap] 37)).alloc (.cells #[.int .i64 q6.kind, .string q6.text, .int .i64 q6.at_, .slice q6.p q6.n q6.cap] 37))) := ⟨(Below.heap_alloc _ _ _ (by simp)).trans (new_at _ rfl), HS6.out.up (Nat.le_refl _), HRB.out⟩
 have HBo7 : Hid (BoxAt r w (w6.heap.size + 1) q6 ((w6.alloc (.cells #[.int .i64 q5.kind, .string q5.text, .int .i64 q5.at_, .slice q5.p q5.n q5.cap] 37)).alloc (.cells #[.int .i64 q6.kind, .string q6.text, .int .i64 q6.at_, .slice q6.p q6.n q6.cap] 37))) := ⟨new_at _ (by simp), HS6.out.up (Nat.le_succ _), HRB.out⟩
 clear hb hm HX6 HR6 HM6 HS6 HTq6 HTo6
 obtain ⟨gq, hgq⟩ : ∃ g, w6.heap.size = g := ⟨_, rfl⟩
 rw [hgq] at HBq7 HBo7
 generalize (w6.alloc (.cells #[.int .i64 q5.kind, .string q5.text, .int .i64 q5.at_, .slice q5.p q5.n q5.cap] 37)).alloc (.cells #[.int .i64 q6.kind, .string q6.text, .int .i64 q6.at_, .slice q6.p q6.n q6.cap] 37) = w7 at *
 rw [hgq]
 clear hgq
 refine (need_x r j6 lv s ⟨#[59]⟩ w7 HR7.out HE.out (by decide)).mono ?_
 rintro e w8 (⟨k, hx, rfl, hm⟩ | ⟨_, j8, hx, rfl, hr, hm⟩)
 ·have HM8 := Lib.hid (HM7.out.trans hm)
  have hX := bindM_err hx HX7.out
  clear hx hm
  subst hX
  unfold stopAt
  go_wp2_with fail
  exact ⟨rfl, rfl, HM8.out⟩
 have HX8 := Lib.hid (bindM_ok hx HX7.out)
 have HR8 := Lib.hid hr
 have HM8 := Lib.hid (HM7.out.trans hm)
 have HS8 := Lib.hid (HS7.out.mv hm HRB.out)
 have HTq8 := Lib.hid (HTq7.out.mvB hm HRB.out)
 have HTo8 := Lib.hid (HTo7.out.mvB hm HRB.out)
 have HBq8 := Lib.hid (HBq7.out.mvB hm HRB.out)
 have HBo8 := Lib.hid (HBo7.out.mvB hm HRB.out)
 clear hx hr hm HX7 HR7 HM7 HS7 HTq7 HTo7 HBq7 HBo7
 obtain ⟨b0q, b1q, b2q, b3q⟩ := HBq8.out.cells
 obtain ⟨b0o, b1o, b2o, b3o⟩ := HBo8.out.cells
 go_wp2_with fail
 have hb := boxB w8 (.cells #[.int .i64 q5.kind, .string q5.text, .int .i64 q5.at_, .slice q5.p q5.n q5.cap, .int .i64 q6.kind, .string q6.text, .int .i64 q6.at_, .slice q6.p q6.n q6.cap] 37)
 have hm : Mv r w8 (w8.alloc (.cells #[.int .i64 q5.kind, .string q5.text, .int .i64 q5.at_, .slice q5.p q5.n q5.cap, .int .i64 q6.kind, .string q6.text, .int .i64 q6.at_, .slice q6.p q6.n q6.cap] 37)) := Mv.of_below hb
 have HR9 := Lib.hid (HR8.out.below hb)
 have HM9 := Lib.hid (HM8.out.trans hm)
 have HS9 := Lib.hid (HS8.out.mv hm HRB.out)
 have hlt := lt_heap HS8.out.z
 have HL9 : Hid (IsTs (fun b => w.heap.size < b) (w8.alloc (.cells #[.int .i64 q5.kind, .string q5.text, .int .i64 q5.at_, .slice q5.p q5.n q5.cap, .int .i64 q6.kind, .string q6.text, .int .i64 q6.at_, .slice q6.p q6.n q6.cap] 37)) (.slice (some ⟨w8.heap.size, 0, none⟩) 2 2) [q, o]) := by
  refine IsTs.row _ [q5, q6] _ rfl rfl rfl (by decide) (by decide) hlt (fun i h1 h2 => ?_)
  match i, h1, h2 with
  | 0, _, _ => exact HTq8.out
  | 1, _, _ => exact HTo8.out
  | i + 2, h1, _ => exact absurd h1 (by simp)
 clear hb hm hlt HR8 HM8 HS8 HTq8 HTo8 HBq8 HBo8
 have HX9 := HX8
 clear HX8
 obtain ⟨g9, hg9⟩ : ∃ g, w8.heap.size = g := ⟨_, rfl⟩
 clear hg9
 generalize w8.alloc (.cells #[.int .i64 q5.kind, .string q5.text, .int .i64 q5.at_, .slice q5.p q5.n q5.cap, .int .i64 q6.kind, .string q6.text, .int .i64 q6.at_, .slice q6.p q6.n q6.cap] 37) = w9 at *
 refine (node_any 9 nm a (some ⟨w8.heap.size, 0, none⟩) 2 2 w9).mono ?_
 rintro e w10 ⟨rfl, hb⟩
 have hm : Mv r w9 w10 := Mv.of_below hb
 have HX10 := HX9
 have HR10 := Lib.hid (HR9.out.below hb)
 have HM10 := Lib.hid (HM9.out.trans hm)
 have HS10 := Lib.hid (HS9.out.mv hm HRB.out)
 have HL10 := Lib.hid (HL9.out.mvB hm HRB.out)
 clear hb hm HX9 HR9 HM9 HS9 HL9
 have HW := Lib.hid (res_world r j8 lv s w w10 ⟨9, nm, a, some ⟨w8.heap.size, 0, none⟩, 2, 2⟩ (.mk 9 nm a [q, o]) HRB.out HM10.out HS10.out.z (IsT.node _ _ _ HL10.out) HR10.out)
 obtain ⟨d0, d1, d2, d3, f0⟩ := HS10.out.cells
 have hX : Except.ok ((.mk 9 nm a [q, o]), j8) = X := HX10.out
 clear HX10
 subst hX
 (try unfold ndC)
 go_wp2_with fail
 obtain ⟨hcell, hist, hrd, hmv⟩ := HW.out
 exact bodyPost_ret (results_cellT rfl _ _ _ ⟨w.heap.size, 0, none⟩ _ rfl (load_node _ _ ⟨9, nm, a, some ⟨w8.heap.size, 0, none⟩, 2, 2⟩ hcell)) rfl ⟨_, rfl, hist, hrd, hmv⟩
set_option maxRecDepth 100000 in
set_option maxHeartbeats 1000000 in
theorem rel_any (r : Rdr) (i lv : Nat) (s : Bool) (E Bk U : PM Tree) (w : World) (h : RdAt r i lv s w) (hE : EndAt r)
  (HSUM : ∀ a w1, RdAt r a lv s w1 → Calls Tryz.prog 96 #[.pointer (some ⟨r.b, 0, none⟩)] w1 (RulePost r (sumM r E Bk U a) lv s w1)) :
  Calls Tryz.prog 92 #[.pointer (some ⟨r.b, 0, none⟩)] w (RulePost r (relM r E Bk U i) lv s w) := by
 have HRB : Hid (r.b < w.heap.size) := lt_heap h.cells
 have HR1 := Lib.hid (h.below (boxB w (.cells #[.int .i64 0, .string ⟨#[]⟩, .int .i64 0, .slice none 0 0] 37)))
 have HM1 := Lib.hid (Mv.of_below (r := r) (boxB w (.cells #[.int .i64 0, .string ⟨#[]⟩, .int .i64 0, .slice none 0 0] 37)))
 have HS1 := Lib.hid (ResAt.start w)
 generalize hX0 : relM r E Bk U i = X
 unfold relM at hX0
 have HX1 := Lib.hid hX0
 have HE := Lib.hid hE
 have HS0 := Lib.hid HSUM
 clear hX0 h hE HSUM
 go_enter Tryz.func92, Tryz.ntmps92
 go_wp2_with fail
 generalize w.alloc (.cells #[.int .i64 0, .string ⟨#[]⟩, .int .i64 0, .slice none 0 0] 37) = w1 at *
 refine (HS0.out i w1 HR1.out).mono ?_
 intro e w2 hp
 rcases (RulePost.two (p := sumM r E Bk U) hp) with ⟨k, hx, rfl, hm⟩ | ⟨t, j2, hx, q2, rfl, ht, hr, hm⟩
 ·have HM2 := Lib.hid (HM1.out.trans hm)
  have hX := bindM_err hx HX1.out
  clear hx hm
  subst hX
  unfold stopAt
  go_wp2_with fail
  exact ⟨rfl, rfl, HM2.out⟩
 have HX2 := Lib.hid (bindM_ok hx HX1.out)
 have HR2 := Lib.hid hr
 have HM2 := Lib.hid (HM1.out.trans hm)
 have HS2 := Lib.hid (HS1.out.mv hm HRB.out)
 have HTt2 : Hid (IsT (fun b => w.heap.size < b) w2 q2 t) := ht.mono (fun b hb => HS1.out.up hb)
 unfold ndC
 clear hp hx ht hr hm HX1 HR1 HM1 HS1
 go_wp2_with fail
 have hb := boxB w2 (.cells #[.int .i64 q2.kind, .string q2.text, .int .i64 q2.at_, .slice q2.p q2.n q2.cap] 37)
 have hm : Mv r w2 (w2.alloc (.cells #[.int .i64 q2.kind, .string q2.text, .int .i64 q2.at_, .slice q2.p q2.n q2.cap] 37)) := Mv.of_below hb
 have HX3 := HX2
 have HR3 := Lib.hid (HR2.out.below hb)
 have HM3 := Lib.hid (HM2.out.trans hm)
 have HS3 := Lib.hid (HS2.out.mv hm HRB.out)
 have HTt3 := Lib.hid (HTt2.out.mvB hm HRB.out)
 have HBt3 : Hid (BoxAt r w w2.heap.size q2 (w2.alloc (.cells #[.int .i64 q2.kind, .string q2.text, .int .i64 q2.at_, .slice q2.p q2.n q2.cap] 37))) := ⟨heap_alloc_new w2 _, HS2.out.up (Nat.le_refl _), HRB.out⟩
 clear hb hm HX2 HR2 HM2 HS2 HTt2
 have hsz : (w2.alloc (.cells #[.int .i64 q2.kind, .string q2.text, .int .i64 q2.at_, .slice q2.p q2.n q2.cap] 37)).heap.size = w2.heap.size + 1 := by simp
 obtain ⟨gt, hgt⟩ : ∃ g, w2.heap.size = g := ⟨_, rfl⟩
 rw [hgt] at HBt3 hsz
 generalize w2.alloc (.cells #[.int .i64 q2.kind, .string q2.text, .int .i64 q2.at_, .slice q2.p q2.n q2.cap] 37) = w3 at *
 rw [hgt]
 have HSZ3 := Lib.hid hsz
 clear hgt hsz
 have hb := boxB w3 (.cells #[.string ⟨#[60]⟩, .string ⟨#[61, 61]⟩] 9)
 have hm : Mv r w3 (w3.alloc (.cells #[.string ⟨#[60]⟩, .string ⟨#[61, 61]⟩] 9)) := Mv.of_below hb
 have HX4 := HX3
 have HR4 := Lib.hid (HR3.out.below hb)
 have HM4 := Lib.hid (HM3.out.trans hm)
 have HS4 := Lib.hid (HS3.out.mv hm HRB.out)
 have HTt4 := Lib.hid (HTt3.out.mvB hm HRB.out)
 have HBt4 := Lib.hid (HBt3.out.mvB hm HRB.out)
 have HV : Hid (TextsAt (w3.alloc (.cells #[.string ⟨#[60]⟩, .string ⟨#[61, 61]⟩] 9)) w3.heap.size 0 Vrel) := texts_row _ Vrel rfl
 clear hb hm HX3 HR3 HM3 HS3 HTt3 HBt3
 rw [HSZ3.out] at HV
 generalize w3.alloc (.cells #[.string ⟨#[60]⟩, .string ⟨#[61, 61]⟩] 9) = w4 at *
 refine (sign_x r j2 lv s Vrel (gt + 1) 0 2 2 w4 HR4.out HE.out rfl (by decide) HV.out (by decide)).mono ?_
 rintro e w5 ⟨sg, j5, hx, rfl, hr, hm⟩
 have HX5 := Lib.hid (bindM_ok hx HX4.out)
 have HR5 := Lib.hid hr
 have HM5 := Lib.hid (HM4.out.trans hm)
 have HS5 := Lib.hid (HS4.out.mv hm HRB.out)
 have HTt5 := Lib.hid (HTt4.out.mvB hm HRB.out)
 have HBt5 := Lib.hid (HBt4.out.mvB hm HRB.out)
 clear hx hr hm HX4 HR4 HM4 HS4 HTt4 HBt4
 clear HV
 cases hz : sg.toList.isEmpty
 all_goals rw [hz] at HX5
 ·go_wp2_with fail
  apply wp_region_one 3 4 (fun x y => x = y) (fun x y => Mv r x y) (fun x => Mv r w5 x) (fun x => RdAt r j5 lv s x) (fun e x => ∃ k, sumM r E Bk U j5 = .error k ∧ e = stopAt k ∧ Mv r w5 x)
  case hIA => (rintro x y rfl h; exact h)
  case hIC => (intro x y hl h; exact h.trans hl)
  case hPA => (rintro x y rfl h; exact h)
  case hm => kernel_rfl
  case hB => kernel_rfl
  case h0 => exact But.drew w5
  case h1 => exact HR5.out.below (Below.drew (Below.refl _ _))
  case hP =>
   rintro k a' W ⟨k', hx, he, hm⟩ hd
   have hX := bindM_err hx HX5.out
   subst hX
   simp only [Exit.then]
   exact ⟨hd, he, HM5.out.trans hm⟩
  simp only [List.take_succ_cons, List.take_zero, List.drop_succ_cons, List.drop_zero]
  apply wpOne_cons (t := tvIs (.string sg)) (tvIs_good _ _)
  case h1 =>
   intro W hI hl
   unfold oneAt
   go_simp
   exact one_is (by decide)
  intro _
  rw [tvIs_f]
  go_simp
  apply wpOne_cons (t := tvIs (.agg #[.int .i64 q2.kind, .string q2.text, .int .i64 q2.at_, .slice q2.p q2.n q2.cap])) (tvIs_good _ _)
  case h1 =>
   intro W hI hl
   obtain ⟨b0, b1, b2, b3⟩ := (HBt5.out.mvB hI HRB.out).cells
   unfold oneAt
   go_simp
   exact one_is (by decide)
  intro _
  rw [tvIs_f]
  go_simp
  apply wpOne_cons (t := tvIs (.pointer (some ⟨r.b, 0, none⟩))) (tvIs_good _ _)
  case h1 =>
   intro W hI hl
   unfold oneAt
   go_simp
   exact one_is (by decide)
  intro _
  rw [tvIs_f]
  go_simp
  apply wpOne_cons (t := tvRule r w5 (sumM r E Bk U) j5 lv s) tvRule_good
  case h1 =>
   intro W hI hl
   unfold oneAt
   go_simp
   exact tvRule_upon hI (HS0.out j5 W (hl.1 rfl))
  rintro ⟨q6, u6, j6⟩
  rw [tvRule_f]
  unfold ndC
  go_simp
  apply wpOne_nil (Ts := [])
  intro w6 hI hF
  have hm : Mv r w5 w6 := hI
  have hfact : sumM r E Bk U j5 = .ok (u6, j6) ∧ IsT (fun b => w5.heap.size ≤ b) w6 q6 u6 ∧ RdAt r j6 lv s w6 := hF 3
  obtain ⟨hx, ht, hr⟩ := hfact
  have HX6 := Lib.hid (bindM_ok hx HX5.out)
  have HR6 := Lib.hid hr
  have HM6 := Lib.hid (HM5.out.trans hm)
  have HS6 := Lib.hid (HS5.out.mv hm HRB.out)
  have HTt6 := Lib.hid (HTt5.out.mvB hm HRB.out)
  have HBt6 := Lib.hid (HBt5.out.mvB hm HRB.out)
  have HTu6 : Hid (IsT (fun b => w.heap.size < b) w6 q6 u6) := ht.mono (fun b hb => HS5.out.up hb)
  clear hI hF ht
  clear hx hr hm HX5 HR5 HM5 HS5 HTt5 HBt5
  go_wp2_with fail
  refine (binary_any sg q2 q6 w6).mono ?_
  rintro e w7 ⟨g, hg, rfl, hb, hrow⟩
  have hm : Mv r w6 w7 := Mv.of_below hb
  have HX7 := HX6
  have HR7 := Lib.hid (HR6.out.below hb)
  have HM7 := Lib.hid (HM6.out.trans hm)
  have HS7 := Lib.hid (HS6.out.mv hm HRB.out)
  have HTN : Hid (IsT (fun b => w.heap.size < b) w7 ⟨28, sg, q2.at_, some ⟨g, 0, none⟩, 2, 2⟩ (.mk 28 sg t.at_ [t, u6])) := IsT.bin sg hrow (HS6.out.up hg) (HTt6.out.mvB hm HRB.out) (HTu6.out.mvB hm HRB.out)
  clear hb hm hrow
  have HW := Lib.hid (res_world r j6 lv s w w7 ⟨28, sg, q2.at_, some ⟨g, 0, none⟩, 2, 2⟩ (.mk 28 sg t.at_ [t, u6]) HRB.out HM7.out HS7.out.z HTN.out HR7.out)
  obtain ⟨d0, d1, d2, d3, f0⟩ := HS7.out.cells
  have hX : Except.ok ((.mk 28 sg t.at_ [t, u6]), j6) = X := HX7.out
  clear HX7
  subst hX
  (try unfold ndC)
  go_wp2_with fail
  obtain ⟨hcell, hist, hrd, hmv⟩ := HW.out
  exact bodyPost_ret (results_cellT rfl _ _ _ ⟨w.heap.size, 0, none⟩ _ rfl (load_node _ _ ⟨28, sg, q2.at_, some ⟨g, 0, none⟩, 2, 2⟩ hcell)) rfl ⟨_, rfl, hist, hrd, hmv⟩
 ·obtain ⟨b0, b1, b2, b3⟩ := HBt5.out.cells
  have HW := Lib.hid (res_world r j5 lv s w w5 q2 t HRB.out HM5.out HS5.out.z HTt5.out HR5.out)
  obtain ⟨d0, d1, d2, d3, f0⟩ := HS5.out.cells
  have hX : Except.ok (t, j5) = X := HX5.out
  clear HX5
  subst hX
  (try unfold ndC)
  go_wp2_with fail
  obtain ⟨hcell, hist, hrd, hmv⟩ := HW.out
  exact bodyPost_ret (results_cellT rfl _ _ _ ⟨w.heap.size, 0, none⟩ _ rfl (load_node _ _ q2 hcell)) rfl ⟨_, rfl, hist, hrd, hmv⟩
theorem TextsAt.mvT {r : Rdr} {w w' : World} {b o : Nat} {V : List ByteArray} (h : TextsAt w b o V) (hm : Mv r w w') (hb : b ≠ r.b) : TextsAt w' b o V := fun j hj => But.keep hm (h j hj) (fun q => hb q)
theorem IsT.mvG {r : Rdr} {A : Nat → Prop} {w w' : World} {q : Raw} {t : Tree} (h : IsT A w q t) (hm : Mv r w w') (hA : ∀ b, A b → b ≠ r.b) : IsT A w' q t := h.but hm (fun a e q => hA _ q e)
/-- blocks that were made since, but for the variable's own -/
def since (w : World) (g : Nat) (b : Nat) : Prop := w.heap.size < b ∧ b ≠ g
/-- what stands at each round of a loop that reads on to the right of a node -/
structure Turn (r : Rdr) (w : World) (g lv : Nat) (s : Bool) (j : Nat) (q : Raw) (t : Tree) (W : World) : Prop where
 rd : RdAt r j lv s W
 mv : Mv r w W
 res : ResAt w W
 box : BoxAt r w g q W
 tree : IsT (since w g) W q t
theorem Turn.rb {r : Rdr} {w : World} {g lv : Nat} {s : Bool} {j : Nat} {q : Raw} {t : Tree} {W : World} (h : Turn r w g lv s j q t W) : r.b < w.heap.size := h.box.old
theorem Turn.on {r : Rdr} {w : World} {g lv : Nat} {s : Bool} {j j' : Nat} {q : Raw} {t : Tree} {W W' : World} (h : Turn r w g lv s j q t W) (hr : RdAt r j' lv s W') (hm : Mv r W W') : Turn r w g lv s j' q t W' :=
 ⟨hr, h.mv.trans hm, h.res.mv hm h.rb, h.box.mvB hm h.rb, h.tree.mvG hm (fun b hb => by have := hb.1; have := h.rb; omega)⟩
theorem Turn.first {r : Rdr} {w : World} {lv : Nat} {s : Bool} {j : Nat} {q : Raw} {t : Tree} {W : World} (hr : RdAt r j lv s W) (hm : Mv r w W) (hs : ResAt w W) (hrb : r.b < w.heap.size) (ht : IsT (fun b => w.heap.size < b) W q t) :
  Turn r w W.heap.size lv s j q t (W.alloc (.cells (ndC q) 37)) := by
 have hb := boxB W (.cells (ndC q) 37)
 have hm' : Mv r W (W.alloc (.cells (ndC q) 37)) := Mv.of_below hb
 exact ⟨hr.below hb, hm.trans hm', hs.mv hm' hrb, ⟨heap_alloc_new W _, hs.up (Nat.le_refl _), hrb⟩, (ht.old.later hb).mono (fun b hb => ⟨hb.1, by omega⟩)⟩
/-- the variable gets another node, which was made since -/
theorem Turn.store {r : Rdr} {w : World} {g lv : Nat} {s : Bool} {j j' : Nat} {q q' : Raw} {t t' : Tree} {W W' : World} (h : Turn r w g lv s j q t W) (hr : RdAt r j' lv s W') (hm : Mv r W W') (ht : IsT (since w g) W' q' t') :
  Turn r w g lv s j' q' t' ((((W'.setCell ⟨g, 0, none⟩ (.int .i64 q'.kind)).setCell ⟨g, 1, none⟩ (.string q'.text)).setCell ⟨g, 2, none⟩ (.int .i64 q'.at_)).setCell ⟨g, 3, none⟩ (.slice q'.p q'.n q'.cap)) := by
 have h' := h.on hr hm
 have hg := h.box.new
 have hrb := h.rb
 have key : ∀ (W : World) (k : Nat) (v : Value), But (fun a => a.block = g) W (W.setCell ⟨g, k, none⟩ v) := fun W k v => But.setCell W _ v rfl
 have bb := (((key W' 0 (.int .i64 q'.kind)).trans (key _ 1 (.string q'.text))).trans (key _ 2 (.int .i64 q'.at_))).trans (key _ 3 (.slice q'.p q'.n q'.cap))
 have mm : Mv r w ((((W'.setCell ⟨g, 0, none⟩ (.int .i64 q'.kind)).setCell ⟨g, 1, none⟩ (.string q'.text)).setCell ⟨g, 2, none⟩ (.int .i64 q'.at_)).setCell ⟨g, 3, none⟩ (.slice q'.p q'.n q'.cap)) :=
  But.setCell_new (But.setCell_new (But.setCell_new (But.setCell_new h'.mv ⟨g, 0, none⟩ _ (Nat.le_of_lt hg)) ⟨g, 1, none⟩ _ (Nat.le_of_lt hg)) ⟨g, 2, none⟩ _ (Nat.le_of_lt hg)) ⟨g, 3, none⟩ _ (Nat.le_of_lt hg)
 refine ⟨⟨?_, SlIs.but hr.toks bb (fun b o i e q => ?_), hr.away, hr.lt, hr.few, hr.deep⟩, mm, ⟨?_⟩, ⟨heap_setCell_same _ _ _ _ _ _ (heap_setCell_same _ _ _ _ _ _ (heap_setCell_same _ _ _ _ _ _ (heap_setCell_same _ _ _ _ _ _ h'.box.z))), hg, hrb⟩, ht.but bb (fun a e q => q.2 e)⟩
 ·rw [But.block bb r.b (lt_heap hr.cells) (fun a ha e => by rw [ha] at e; omega)]
  exact hr.cells
 ·have h1 := hr.away b o e
  have h2 : b = g := q
  omega
 ·rw [But.block bb w.heap.size (lt_heap h'.res.z) (fun a ha e => by rw [ha] at e; omega)]
  exact h'.res.z
theorem Turn.nextOf {r : Rdr} {w : World} {g lv : Nat} {s : Bool} {j : Nat} {q : Raw} {t : Tree} {W : World} (h : Turn r w g lv s j q t W) : nextOf r W = j := h.rd.nextOf
theorem BoxAt.warm {r : Rdr} {w W : World} {g : Nat} {q : Raw} (h : BoxAt r w g q W) : ∀ j, W.frozen? ⟨g, j, none⟩ = false := fun j => Lib.frozen_of_heap h.z j
/-- what is left of a chain -/
def chainK (r : Rdr) (part : PM Tree) (V : List ByteArray) (f : Nat) (t : Tree) (sg : ByteArray) : PM Tree := match sg.toList.isEmpty with
 | true => pureM t
 | false => bindM part fun u => chainM r part V f (.mk 28 sg t.at_ [t, u])
set_option maxRecDepth 100000 in
set_option maxHeartbeats 2000000 in
theorem chain_any (r : Rdr) (i lv : Nat) (s : Bool) (F : FuncId) (part : PM Tree) (V : List ByteArray) (b o n cap : Nat) (w : World) (h : RdAt r i lv s w) (hE : EndAt r) (hn : n = V.length) (hn2 : n ≤ 100) (hV : TextsAt w b o V) (hbr : b ≠ r.b) (hV2 : ∀ v ∈ V, v.size ≠ 0)
  (hF : ∀ args w, (callFunc F args).run Tryz.prog w = .ok (.enter F args) w) (hup : UpS part) (HP : ∀ a w1, RdAt r a lv s w1 → Calls Tryz.prog F #[.pointer (some ⟨r.b, 0, none⟩)] w1 (RulePost r (part a) lv s w1)) :
  Calls Tryz.prog 87 #[.pointer (some ⟨r.b, 0, none⟩), .func (.func F) #[] #[], .slice (some ⟨b, o, none⟩) n cap] w (RulePost r (chainP r part V i) lv s w) := by
 have HRB : Hid (r.b < w.heap.size) := lt_heap h.cells
 have HR1 := Lib.hid (h.below (boxB w (.cells #[.int .i64 0, .string ⟨#[]⟩, .int .i64 0, .slice none 0 0] 37)))
 have HM1 := Lib.hid (Mv.of_below (r := r) (boxB w (.cells #[.int .i64 0, .string ⟨#[]⟩, .int .i64 0, .slice none 0 0] 37)))
 have HS1 := Lib.hid (ResAt.start w)
 generalize hX0 : chainP r part V i = X
 unfold chainP at hX0
 have HX1 := Lib.hid hX0
 have HE := Lib.hid hE
 have HV := Lib.hid hV
 have HV2 := Lib.hid hV2
 have HPP := Lib.hid HP
 have HUP := Lib.hid hup
 have HN := Lib.hid hn
 clear hX0 h hE hV hV2 HP hup hn
 go_enter Tryz.func87, Tryz.ntmps87
 go_wp2_with fail
 generalize w.alloc (.cells #[.int .i64 0, .string ⟨#[]⟩, .int .i64 0, .slice none 0 0] 37) = w1 at *
 refine (HPP.out i w1 HR1.out).mono ?_
 intro e w2 hp
 rcases (RulePost.two (p := part) hp) with ⟨k, hx, rfl, hm⟩ | ⟨t, j2, hx, q2, rfl, ht, hr, hm⟩
 ·have HM2 := Lib.hid (HM1.out.trans hm)
  have hX := bindM_err hx HX1.out
  clear hx hm
  subst hX
  unfold stopAt
  go_wp2_with fail
  exact ⟨rfl, rfl, HM2.out⟩
 have HX2 := Lib.hid (bindM_ok hx HX1.out)
 have HT3 := Lib.hid (Turn.first hr (HM1.out.trans hm) (HS1.out.mv hm HRB.out) HRB.out (ht.mono (fun b hb => HS1.out.up hb)))
 unfold ndC at HT3 ⊢
 clear hp hx ht hr hm HX1 HR1 HM1 HS1
 go_wp2_with fail
 obtain ⟨g, hg⟩ : ∃ g, w2.heap.size = g := ⟨_, rfl⟩
 rw [hg] at HT3
 generalize w2.alloc (.cells #[.int .i64 q2.kind, .string q2.text, .int .i64 q2.at_, .slice q2.p q2.n q2.cap] 37) = w3 at *
 rw [hg]
 clear hg
 refine (sign_x r j2 lv s V b o n cap w3 HT3.out.rd HE.out HN.out hn2 (HV.out.mvT HT3.out.mv hbr) HV2.out).mono ?_
 rintro e w4 ⟨sg, j4, hx, rfl, hr, hm⟩
 have HT4 := Lib.hid (HT3.out.on hr hm)
 have HX4 : Hid (chainK r part V r.L.length t sg j4 = X) := bindM_ok hx HX2.out
 clear hx hr hm HT3 HX2
 go_wp2_with fail
 go_loopw [8] (fun v wr => ∃ (sg : ByteArray) (j f : Nat) (q : Raw) (t : Tree), v = .string sg ∧ Hid (Turn r w g lv s j q t wr) ∧ r.L.length ≤ f + j ∧ Hid (chainK r part V f t sg j = X)) (fun v wr => r.L.length - nextOf r wr)
 case atStart => exact ⟨sg, j4, r.L.length, q2, t, rfl, HT4.out, by omega, HX4.out⟩
 case round =>
  obtain ⟨sg, j, f, q, t, rfl, HT, hf, HX⟩ := hrel
  clear HT4 HX4
  have hnx : nextOf r wr = j := HT.out.nextOf
  have hjl := HT.out.rd.lt
  cases hz : sg.toList.isEmpty
  ·have HX0 : Hid (bindM part (fun u => chainM r part V f (.mk 28 sg t.at_ [t, u])) j = X) := by have := HX.out; unfold chainK at this; rw [hz] at this; exact this
   clear HX
   obtain ⟨f', rfl⟩ : ∃ f', f = f' + 1 := ⟨f - 1, by omega⟩
   go_wp2_with fail
   apply wp_region_one 4 5 (fun x y => x = y) (fun x y => Mv r x y) (fun x => Mv r wr x) (fun x => RdAt r j lv s x) (fun e x => ∃ k, part j = .error k ∧ e = stopAt k ∧ Mv r wr x)
   case hIA => (rintro x y rfl h; exact h)
   case hIC => (intro x y hl h; exact h.trans hl)
   case hPA => (rintro x y rfl h; exact h)
   case hm => kernel_rfl
   case hB => kernel_rfl
   case h0 => exact But.drew wr
   case h1 => exact HT.out.rd.below (Below.drew (Below.refl _ _))
   case hP =>
    rintro k a' W ⟨k', hx, he, hm⟩ hd
    have hX := bindM_err hx HX0.out
    subst hX
    change bodyPost Tryz.prog Tryz.f87 (RulePost r (.error k') lv s w) (.panic k) a' W
    exact ⟨hd, he, HT.out.mv.trans hm⟩
   simp only [List.take_succ_cons, List.take_zero, List.drop_succ_cons, List.drop_zero]
   apply wpOne_cons (t := tvIs (.string sg)) (tvIs_good _ _)
   case h1 =>
    intro W hI hl
    unfold oneAt
    go_simp
    exact one_is (by decide)
   intro _
   rw [tvIs_f]
   go_simp
   apply wpOne_cons (t := tvIs (.agg #[.int .i64 q.kind, .string q.text, .int .i64 q.at_, .slice q.p q.n q.cap])) (tvIs_good _ _)
   case h1 =>
    intro W hI hl
    obtain ⟨b0, b1, b2, b3⟩ := (HT.out.box.mvB hI HRB.out).cells
    unfold oneAt
    go_simp
    exact one_is (by decide)
   intro _
   rw [tvIs_f]
   go_simp
   apply wpOne_cons (t := tvIs (.func (.func F) #[] #[])) (tvIs_good _ _)
   case h1 =>
    intro W hI hl
    unfold oneAt
    go_simp
    exact one_is (by decide)
   intro _
   rw [tvIs_f]
   go_simp
   apply wpOne_cons (t := tvIs (.pointer (some ⟨r.b, 0, none⟩))) (tvIs_good _ _)
   case h1 =>
    intro W hI hl
    unfold oneAt
    go_simp
    exact one_is (by decide)
   intro _
   rw [tvIs_f]
   go_simp
   apply wpOne_cons (t := tvRule r wr part j lv s) tvRule_good
   case h1 =>
    intro W hI hl
    unfold oneAt
    go_simp
    exact tvRule_upon hI (HPP.out j W (hl.1 rfl))
   rintro ⟨q5, u5, j5⟩
   rw [tvRule_f]
   unfold ndC
   go_simp
   apply wpOne_nil (Ts := [])
   intro w5 hI hFa
   have hm : Mv r wr w5 := hI
   have hfact : part j = .ok (u5, j5) ∧ IsT (fun b => wr.heap.size ≤ b) w5 q5 u5 ∧ RdAt r j5 lv s w5 := hFa 4
   obtain ⟨hx, ht, hr⟩ := hfact
   have hX5 := bindM_ok hx HX0.out
   have HX5 : Hid (bindM (signM r V) (fun sg' => chainK r part V f' (.mk 28 sg t.at_ [t, u5]) sg') j5 = X) := hX5
   clear hX5
   have HT5 := Lib.hid (HT.out.on hr hm)
   have HU5 : Hid (IsT (since w g) w5 q5 u5) := ht.mono (fun b hb => by
    have h1 := lt_heap HT.out.box.z
    have h2 := HT.out.box.new
    exact ⟨by omega, by omega⟩)
   have hjj := HUP.out _ _ _ hx
   clear hI hFa hm hx ht hr HX0
   have HNX := Lib.hid hnx
   clear hnx
   go_wp2_with fail
   refine (binary_any sg q q5 w5).mono ?_
   rintro e w6 ⟨g6, hg6, rfl, hb, hrow⟩
   have hm : Mv r w5 w6 := Mv.of_below hb
   have HR6 := Lib.hid (HT5.out.rd.below hb)
   have HT6 := Lib.hid (HT5.out.on HR6.out hm)
   have HB6 : Hid (IsT (since w g) w6 ⟨28, sg, q.at_, some ⟨g6, 0, none⟩, 2, 2⟩ (.mk 28 sg t.at_ [t, u5])) := IsT.bin sg hrow (by
    have h1 := lt_heap HT5.out.box.z
    have h2 := HT5.out.box.new
    exact ⟨by omega, by omega⟩) HT6.out.tree (HU5.out.mvG hm (fun b hb => by have := hb.1; have := HRB.out; omega))
   have HT7 := Lib.hid (HT5.out.store HR6.out hm HB6.out)
   obtain ⟨b0, b1, b2, b3⟩ := HT6.out.box.cells
   have f0 := HT6.out.box.warm
   clear hb hm hrow HT5 HU5 HB6 HR6 HT6 HT hg6
   unfold ndC
   go_wp2_with fail
   generalize (((w6.setCell ⟨g, 0, none⟩ (.int .i64 28)).setCell ⟨g, 1, none⟩ (.string sg)).setCell ⟨g, 2, none⟩ (.int .i64 q.at_)).setCell ⟨g, 3, none⟩ (.slice (some ⟨g6, 0, none⟩) 2 2) = w7 at *
   clear b0 b1 b2 b3 f0
   refine (sign_x r j5 lv s V b o n cap w7 HT7.out.rd HE.out HN.out hn2 (HV.out.mvT HT7.out.mv hbr) HV2.out).mono ?_
   rintro e w8 ⟨sg', j8, hx, rfl, hr, hm⟩
   have HT8 := Lib.hid (HT7.out.on hr hm)
   have HX8 : Hid (chainK r part V f' (.mk 28 sg t.at_ [t, u5]) sg' j8 = X) := bindM_ok hx HX5.out
   have hj8 := up_sign r V _ _ _ hx
   clear hx hr hm HT7 HX5 hz
   go_wp2_with fail
   go_roundw
   case rel => exact ⟨sg', j8, f', _, _, rfl, HT8.out, by omega, HX8.out⟩
   case measure => rw [HT8.out.nextOf, HNX.out]; omega
  ·have hX : Except.ok (t, j) = X := by have := HX.out; unfold chainK at this; rw [hz] at this; exact this
   clear HX
   subst hX
   have HW := Lib.hid (res_world r j lv s w wr q t HRB.out HT.out.mv HT.out.res.z (HT.out.tree.mono (fun b hb => hb.1)) HT.out.rd)
   obtain ⟨d0, d1, d2, d3, e0⟩ := HT.out.res.cells
   obtain ⟨b0, b1, b2, b3⟩ := HT.out.box.cells
   clear hnx
   go_wp2_with fail
   obtain ⟨hcell, hist, hrd, hmv⟩ := HW.out
   exact bodyPost_ret (results_cellT rfl _ _ _ ⟨w.heap.size, 0, none⟩ _ rfl (load_node _ _ q hcell)) rfl ⟨_, rfl, hist, hrd, hmv⟩
end Go.Proofs.YtheigpiffdabnaaGreat
