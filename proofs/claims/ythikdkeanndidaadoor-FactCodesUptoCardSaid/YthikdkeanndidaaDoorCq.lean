/-
  CONTRACT: the reference's SameCode of equal codes.
-/
import Derived.Test.YthikdkeanndidaaDoorCp
import Derived.BigRegion
import Derived.RegionTactic
namespace Go.Proofs.YthikdkeanndidaaDoor
open Go Go.RowKit
set_option linter.unusedVariables false
set_option linter.unusedSimpArgs false
set_option maxRecDepth 1000000

theorem two_stores {wb : World} {B6 B7 : Nat} {o : Opp} {a5 b5 : Option Addr} {e5 f5 : Nat} (h6 : wb.heap[B6]? = some (.cells #[.int .i64 0, .int .i64 0, .int .i64 0, .int .i64 0, .slice none 0 0, .string ⟨#[]⟩] 58)) (h7 : wb.heap[B7]? = some (.cells #[.int .i64 0, .int .i64 0, .int .i64 0, .int .i64 0, .slice none 0 0, .string ⟨#[]⟩] 58)) (hne : B6 ≠ B7) :
    ((((((((((((wb.setCell ⟨B6, 0, none⟩ (.int .i64 o.kind)).setCell ⟨B6, 1, none⟩ (.int .i64 o.a)).setCell ⟨B6, 2, none⟩ (.int .i64 o.b)).setCell ⟨B6, 3, none⟩ (.int .i64 o.c)).setCell ⟨B6, 4, none⟩ (.slice a5 o.list.length e5)).setCell ⟨B6, 5, none⟩ (.string o.sym)).setCell ⟨B7, 0, none⟩ (.int .i64 o.kind)).setCell ⟨B7, 1, none⟩ (.int .i64 o.a)).setCell ⟨B7, 2, none⟩ (.int .i64 o.b)).setCell ⟨B7, 3, none⟩ (.int .i64 o.c)).setCell ⟨B7, 4, none⟩ (.slice b5 o.list.length f5)).setCell ⟨B7, 5, none⟩ (.string o.sym)).heap[B6]? = some (.cells #[.int .i64 o.kind, .int .i64 o.a, .int .i64 o.b, .int .i64 o.c, .slice a5 o.list.length e5, .string o.sym] 58 (0, 0)) ∧ ((((((((((((wb.setCell ⟨B6, 0, none⟩ (.int .i64 o.kind)).setCell ⟨B6, 1, none⟩ (.int .i64 o.a)).setCell ⟨B6, 2, none⟩ (.int .i64 o.b)).setCell ⟨B6, 3, none⟩ (.int .i64 o.c)).setCell ⟨B6, 4, none⟩ (.slice a5 o.list.length e5)).setCell ⟨B6, 5, none⟩ (.string o.sym)).setCell ⟨B7, 0, none⟩ (.int .i64 o.kind)).setCell ⟨B7, 1, none⟩ (.int .i64 o.a)).setCell ⟨B7, 2, none⟩ (.int .i64 o.b)).setCell ⟨B7, 3, none⟩ (.int .i64 o.c)).setCell ⟨B7, 4, none⟩ (.slice b5 o.list.length f5)).setCell ⟨B7, 5, none⟩ (.string o.sym)).heap[B7]? = some (.cells #[.int .i64 o.kind, .int .i64 o.a, .int .i64 o.b, .int .i64 o.c, .slice b5 o.list.length f5, .string o.sym] 58 (0, 0)) ∧ But (fun a => a.block = B6 ∨ a.block = B7) wb ((((((((((((wb.setCell ⟨B6, 0, none⟩ (.int .i64 o.kind)).setCell ⟨B6, 1, none⟩ (.int .i64 o.a)).setCell ⟨B6, 2, none⟩ (.int .i64 o.b)).setCell ⟨B6, 3, none⟩ (.int .i64 o.c)).setCell ⟨B6, 4, none⟩ (.slice a5 o.list.length e5)).setCell ⟨B6, 5, none⟩ (.string o.sym)).setCell ⟨B7, 0, none⟩ (.int .i64 o.kind)).setCell ⟨B7, 1, none⟩ (.int .i64 o.a)).setCell ⟨B7, 2, none⟩ (.int .i64 o.b)).setCell ⟨B7, 3, none⟩ (.int .i64 o.c)).setCell ⟨B7, 4, none⟩ (.slice b5 o.list.length f5)).setCell ⟨B7, 5, none⟩ (.string o.sym)) := by
  obtain ⟨-, -, k1⟩ := op_store h6 o.kind o.a o.b o.c a5 o.list.length e5 o.sym
  have b1 := op_but (w := wb) (B := B6) o.kind o.a o.b o.c a5 o.list.length e5 o.sym
  have h7' := (b1.block B7 (World.heap_lt h7) (fun a e q => hne (by rw [← e]; exact q.symm))).trans h7
  obtain ⟨-, -, k2⟩ := op_store h7' o.kind o.a o.b o.c b5 o.list.length f5 o.sym
  have b2 := op_but (w := ((((((wb.setCell ⟨B6, 0, none⟩ (.int .i64 o.kind)).setCell ⟨B6, 1, none⟩ (.int .i64 o.a)).setCell ⟨B6, 2, none⟩ (.int .i64 o.b)).setCell ⟨B6, 3, none⟩ (.int .i64 o.c)).setCell ⟨B6, 4, none⟩ (.slice a5 o.list.length e5)).setCell ⟨B6, 5, none⟩ (.string o.sym))) (B := B7) o.kind o.a o.b o.c b5 o.list.length f5 o.sym
  exact ⟨(b2.block B6 (World.heap_lt k1) (fun a e q => hne (by rw [← e]; exact q))).trans k1, k2, (b1.mono (fun a e => .inl e)).trans (b2.mono (fun a e => .inr e))⟩

theorem two_storesD {wb : World} {B6 B7 : Nat} {o : Opp} {a5 b5 : Option Addr} {e5 f5 : Nat} (h6 : wb.heap[B6]? = some (.cells #[.int .i64 0, .int .i64 0, .int .i64 0, .int .i64 0, .slice none 0 0, .string ⟨#[]⟩] 58)) (h7 : wb.heap[B7]? = some (.cells #[.int .i64 0, .int .i64 0, .int .i64 0, .int .i64 0, .slice none 0 0, .string ⟨#[]⟩] 58)) (hne : B6 ≠ B7) :
    ∃ wf, ((((((((((((wb.setCell ⟨B6, 0, none⟩ (.int .i64 o.kind)).setCell ⟨B6, 1, none⟩ (.int .i64 o.a)).setCell ⟨B6, 2, none⟩ (.int .i64 o.b)).setCell ⟨B6, 3, none⟩ (.int .i64 o.c)).setCell ⟨B6, 4, none⟩ (.slice a5 o.list.length e5)).setCell ⟨B6, 5, none⟩ (.string o.sym)).setCell ⟨B7, 0, none⟩ (.int .i64 o.kind)).setCell ⟨B7, 1, none⟩ (.int .i64 o.a)).setCell ⟨B7, 2, none⟩ (.int .i64 o.b)).setCell ⟨B7, 3, none⟩ (.int .i64 o.c)).setCell ⟨B7, 4, none⟩ (.slice b5 o.list.length f5)).setCell ⟨B7, 5, none⟩ (.string o.sym)).drew = wf ∧ But (fun a => a.block = B6 ∨ a.block = B7) wb wf ∧ wf.cell? ⟨B6, 0, none⟩ = some (.int .i64 o.kind) ∧ wf.cell? ⟨B6, 1, none⟩ = some (.int .i64 o.a) ∧ wf.cell? ⟨B6, 2, none⟩ = some (.int .i64 o.b) ∧ wf.cell? ⟨B6, 3, none⟩ = some (.int .i64 o.c) ∧ wf.cell? ⟨B6, 4, none⟩ = some (.slice a5 o.list.length e5) ∧ wf.cell? ⟨B6, 5, none⟩ = some (.string o.sym) ∧ wf.cell? ⟨B7, 0, none⟩ = some (.int .i64 o.kind) ∧ wf.cell? ⟨B7, 1, none⟩ = some (.int .i64 o.a) ∧ wf.cell? ⟨B7, 2, none⟩ = some (.int .i64 o.b) ∧ wf.cell? ⟨B7, 3, none⟩ = some (.int .i64 o.c) ∧ wf.cell? ⟨B7, 4, none⟩ = some (.slice b5 o.list.length f5) ∧ wf.cell? ⟨B7, 5, none⟩ = some (.string o.sym) := by
  obtain ⟨k6, k7, hb⟩ := two_stores (o := o) (a5 := a5) (e5 := e5) (b5 := b5) (f5 := f5) h6 h7 hne
  generalize ((((((((((((wb.setCell ⟨B6, 0, none⟩ (.int .i64 o.kind)).setCell ⟨B6, 1, none⟩ (.int .i64 o.a)).setCell ⟨B6, 2, none⟩ (.int .i64 o.b)).setCell ⟨B6, 3, none⟩ (.int .i64 o.c)).setCell ⟨B6, 4, none⟩ (.slice a5 o.list.length e5)).setCell ⟨B6, 5, none⟩ (.string o.sym)).setCell ⟨B7, 0, none⟩ (.int .i64 o.kind)).setCell ⟨B7, 1, none⟩ (.int .i64 o.a)).setCell ⟨B7, 2, none⟩ (.int .i64 o.b)).setCell ⟨B7, 3, none⟩ (.int .i64 o.c)).setCell ⟨B7, 4, none⟩ (.slice b5 o.list.length f5)).setCell ⟨B7, 5, none⟩ (.string o.sym)) = x at k6 k7 hb ⊢
  have k6 : x.drew.heap[B6]? = some (.cells #[.int .i64 o.kind, .int .i64 o.a, .int .i64 o.b, .int .i64 o.c, .slice a5 o.list.length e5, .string o.sym] 58 (0, 0)) := k6
  have k7 : x.drew.heap[B7]? = some (.cells #[.int .i64 o.kind, .int .i64 o.a, .int .i64 o.b, .int .i64 o.c, .slice b5 o.list.length f5, .string o.sym] 58 (0, 0)) := k7
  exact ⟨x.drew, rfl, hb.trans (But.drew x), by rw [Lib.cell_of_heap k6]; rfl, by rw [Lib.cell_of_heap k6]; rfl, by rw [Lib.cell_of_heap k6]; rfl, by rw [Lib.cell_of_heap k6]; rfl, by rw [Lib.cell_of_heap k6]; rfl, by rw [Lib.cell_of_heap k6]; rfl, by rw [Lib.cell_of_heap k7]; rfl, by rw [Lib.cell_of_heap k7]; rfl, by rw [Lib.cell_of_heap k7]; rfl, by rw [Lib.cell_of_heap k7]; rfl, by rw [Lib.cell_of_heap k7]; rfl, by rw [Lib.cell_of_heap k7]; rfl⟩

theorem below_two {n B6 B7 : Nat} {w1 wb wf : World} (h : Below n w1 wb) (h6 : n ≤ B6) (h7 : n ≤ B7) (hb : But (fun a => a.block = B6 ∨ a.block = B7) wb wf) (hn : n ≤ w1.heap.size := by exact Nat.le_refl _) : Below n w1 wf :=
  h.trans (But.below hb (Nat.le_trans hn h.size) (fun a e => by rcases e with e | e <;> omega))

set_option maxHeartbeats 8000000 in
/-- the reference's SameCode -/
theorem sameCode_eq (A B : Nat → Prop) (x : Cdd) (p1 p2 : Option Addr) (c1 c2 : Nat) (w : World) (h1 : OpsA A w (.slice p1 x.ops.length c1) x.ops) (h2 : OpsA B w (.slice p2 x.ops.length c2) x.ops) :
    Calls Tryd.prog 16 #[.agg #[.int .i64 x.params, .int .i64 x.regs, .slice p1 x.ops.length c1], .agg #[.int .i64 x.params, .int .i64 x.regs, .slice p2 x.ops.length c2]] w fun e w' => e = .returned (.bool true) ∧ Below w.heap.size w w' := by
  obtain ⟨R1, hR1, hs1, hl1⟩ := h1
  obtain ⟨R2, hR2, hs2, hl2⟩ := h2
  have e1 : R1.length = x.ops.length := by rw [← hR1, List.length_map]
  have e2 : R2.length = x.ops.length := by rw [← hR2, List.length_map]
  obtain ⟨n, hn⟩ : ∃ n, n = x.ops.length := ⟨_, rfl⟩
  rw [← hn] at e1 e2 hs1 hs2 ⊢
  have hs1' := hs1
  have hs2' := hs2
  rw [← e1] at hs1'
  rw [← e2] at hs2'
  obtain ⟨-, hm1, g1⟩ := hs1'.at_
  obtain ⟨-, hm2, g2⟩ := hs2'.at_
  unfold maxLen at hm1 hm2
  have hmn : n ≤ 9223372036854775807 := by omega
  have G1 := Lib.hid g1
  have G2 := Lib.hid g2
  have HL1 := Lib.hid hl1
  have HL2 := Lib.hid hl2
  have HE1 := Lib.hid e1
  have HE2 := Lib.hid e2
  have HR1 := Lib.hid hR1
  have HR2 := Lib.hid hR2
  obtain ⟨w0, hw0⟩ : ∃ y, w.alloc (.cells #[.int .i64 x.params, .int .i64 x.regs, .slice p1 n c1] 24) = y := ⟨_, rfl⟩
  have hb0 := below_box w (.cells #[.int .i64 x.params, .int .i64 x.regs, .slice p1 n c1] 24)
  have hc0 : CellsAt (w.alloc (.cells #[.int .i64 x.params, .int .i64 x.regs, .slice p1 n c1] 24)) w.heap.size 0 [.int .i64 x.params, .int .i64 x.regs, .slice p1 n c1] := cellsAt_alloc w [.int .i64 x.params, .int .i64 x.regs, .slice p1 n c1] _
  have hz0 : (w.alloc (.cells #[.int .i64 x.params, .int .i64 x.regs, .slice p1 n c1] 24)).heap.size = w.heap.size + 1 := World.size_alloc _ _
  rw [hw0] at hb0 hc0 hz0
  obtain ⟨w1, hw1⟩ : ∃ y, w0.alloc (.cells #[.int .i64 x.params, .int .i64 x.regs, .slice p2 n c2] 24) = y := ⟨_, rfl⟩
  have hb1 := below_box w0 (.cells #[.int .i64 x.params, .int .i64 x.regs, .slice p2 n c2] 24)
  have hc1 : CellsAt (w0.alloc (.cells #[.int .i64 x.params, .int .i64 x.regs, .slice p2 n c2] 24)) w0.heap.size 0 [.int .i64 x.params, .int .i64 x.regs, .slice p2 n c2] := cellsAt_alloc w0 [.int .i64 x.params, .int .i64 x.regs, .slice p2 n c2] _
  rw [hw1] at hb1 hc1
  rw [hz0] at hc1
  have HC0 := Lib.hid (hc0.below hb1)
  have HC1 := Lib.hid hc1
  have HB0 := Lib.hid (bnext hb0 hb1)
  have u0 : w1.cell? ⟨w.heap.size, 0, none⟩ = some (.int .i64 x.params) := HC0.out 0 _ rfl
  have u1 : w1.cell? ⟨w.heap.size, 1, none⟩ = some (.int .i64 x.regs) := HC0.out 1 _ rfl
  have u2 : w1.cell? ⟨w.heap.size, 2, none⟩ = some (.slice p1 n c1) := HC0.out 2 _ rfl
  have v0 : w1.cell? ⟨w.heap.size + 1, 0, none⟩ = some (.int .i64 x.params) := HC1.out 0 _ rfl
  have v1 : w1.cell? ⟨w.heap.size + 1, 1, none⟩ = some (.int .i64 x.regs) := HC1.out 1 _ rfl
  have v2 : w1.cell? ⟨w.heap.size + 1, 2, none⟩ = some (.slice p2 n c2) := HC1.out 2 _ rfl
  have q0 : (x.params != x.params) = false := by simp
  have q1 : (x.regs != x.regs) = false := by simp
  have q2 : ((n : Int) != (n : Int)) = false := by simp
  clear hs1 hs2 hs1' hs2' g1 g2 hl1 hl2 e1 e2 hR1 hR2 hb0 hc0 hb1 hc1 hn hm1 hm2
  go_enter Tryd.func16, Tryd.ntmps16
  go_wp2_with fail
  clear u0 u1 u2 v0 v1 v2 q0 q1 q2
  go_loopw [5] (fun i wr => ∃ j : Nat, j ≤ n ∧ i = .int .i64 j ∧ Hid (Below w1.heap.size w1 wr)) (fun i _ => n - (intOf i).toNat)
  case atStart => exact ⟨0, Nat.zero_le _, rfl, Below.refl _ _⟩
  case round =>
    obtain ⟨j, hj, rfl, HB⟩ := hrel
    obtain ⟨wx, rfl⟩ : ∃ x, x = wr := ⟨wr, rfl⟩
    have u2 : wx.cell? ⟨w.heap.size, 2, none⟩ = some (.slice p1 n c1) := HC0.out.below HB.out 2 _ rfl
    have v2 : wx.cell? ⟨w.heap.size + 1, 2, none⟩ = some (.slice p2 n c2) := HC1.out.below HB.out 2 _ rfl
    clear hw0 hw1 hz0
    by_cases hlt : j < n
    · have hlti : (j : Int) < (n : Int) := by omega
      have hj1 : j < R1.length := by rw [HE1.out]; exact hlt
      have hj2 : j < R2.length := by rw [HE2.out]; exact hlt
      obtain ⟨b1, o1, rfl, -, a1⟩ := G1.out j hj1
      obtain ⟨b2, o2, rfl, -, a2⟩ := G2.out j hj2
      have hm1 := HL1.out (R1[j]'hj1) (List.getElem_mem hj1)
      have hm2 := HL2.out (R2[j]'hj2) (List.getElem_mem hj2)
      have hsame : (R1[j]'hj1).1 = (R2[j]'hj2).1 := by
        have h1 : (R1.map (·.1))[j]? = (R2.map (·.1))[j]? := by rw [HR1.out, HR2.out]
        rw [List.getElem?_map, List.getElem?_map, List.getElem?_eq_getElem hj1, List.getElem?_eq_getElem hj2] at h1
        simpa using h1
      obtain ⟨r1, hr1⟩ : ∃ r, r = R1[j]'hj1 := ⟨_, rfl⟩
      obtain ⟨r2, hr2⟩ : ∃ r, r = R2[j]'hj2 := ⟨_, rfl⟩
      rw [← hr1] at a1 hm1 hsame
      rw [← hr2] at a2 hm2 hsame
      obtain ⟨o, a5, e5⟩ := r1
      obtain ⟨o', b5, f5⟩ := r2
      simp only at hsame
      subst hsame
      have hg1 : ∀ k v, k < 6 → (encOp.cells (o, a5, e5))[k]? = some v → wx.cell? ⟨b1, o1 + j * 6 + k, none⟩ = some v := fun k v hk hv => by
        have h1 : w.cell? ⟨b1, o1 + j * 6 + k, none⟩ = some v := a1 k v hk hv
        rw [(HB0.out.trans (HB.out.mono HB0.out.size)).cell (World.block_lt_of_cell? w _ h1)]
        exact h1
      have hg2 : ∀ k v, k < 6 → (encOp.cells (o, b5, f5))[k]? = some v → wx.cell? ⟨b2, o2 + j * 6 + k, none⟩ = some v := fun k v hk hv => by
        have h1 : w.cell? ⟨b2, o2 + j * 6 + k, none⟩ = some v := a2 k v hk hv
        rw [(HB0.out.trans (HB.out.mono HB0.out.size)).cell (World.block_lt_of_cell? w _ h1)]
        exact h1
      have x0 : wx.cell? ⟨b1, o1 + j * 6, none⟩ = some (.int .i64 o.kind) := hg1 0 _ (by decide) rfl
      have x1 : wx.cell? ⟨b1, o1 + j * 6 + 1, none⟩ = some (.int .i64 o.a) := hg1 1 _ (by decide) rfl
      have x2 : wx.cell? ⟨b1, o1 + j * 6 + 2, none⟩ = some (.int .i64 o.b) := hg1 2 _ (by decide) rfl
      have x3 : wx.cell? ⟨b1, o1 + j * 6 + 3, none⟩ = some (.int .i64 o.c) := hg1 3 _ (by decide) rfl
      have x4 : wx.cell? ⟨b1, o1 + j * 6 + 4, none⟩ = some (.slice a5 o.list.length e5) := hg1 4 _ (by decide) rfl
      have x5 : wx.cell? ⟨b1, o1 + j * 6 + 5, none⟩ = some (.string o.sym) := hg1 5 _ (by decide) rfl
      have y0 : wx.cell? ⟨b2, o2 + j * 6, none⟩ = some (.int .i64 o.kind) := hg2 0 _ (by decide) rfl
      have y1 : wx.cell? ⟨b2, o2 + j * 6 + 1, none⟩ = some (.int .i64 o.a) := hg2 1 _ (by decide) rfl
      have y2 : wx.cell? ⟨b2, o2 + j * 6 + 2, none⟩ = some (.int .i64 o.b) := hg2 2 _ (by decide) rfl
      have y3 : wx.cell? ⟨b2, o2 + j * 6 + 3, none⟩ = some (.int .i64 o.c) := hg2 3 _ (by decide) rfl
      have y4 : wx.cell? ⟨b2, o2 + j * 6 + 4, none⟩ = some (.slice b5 o.list.length f5) := hg2 4 _ (by decide) rfl
      have y5 : wx.cell? ⟨b2, o2 + j * 6 + 5, none⟩ = some (.string o.sym) := hg2 5 _ (by decide) rfl
      have lt1 : b1 < wx.heap.size := World.block_lt_of_cell? wx _ x0
      have lt2 : b2 < wx.heap.size := World.block_lt_of_cell? wx _ y0
      have lt3 : w.heap.size + 1 < wx.heap.size := World.block_lt_of_cell? wx _ v2
      have m1 : ¬ b1 = wx.heap.size := by omega
      have m2 : ¬ b1 = wx.heap.size + 1 := by omega
      have m3 : ¬ b2 = wx.heap.size := by omega
      have m4 : ¬ b2 = wx.heap.size + 1 := by omega
      have m5 : ¬ w.heap.size = wx.heap.size := by omega
      have m6 : ¬ w.heap.size = wx.heap.size + 1 := by omega
      have m7 : ¬ w.heap.size + 1 = wx.heap.size := by omega
      have n1 : ¬ wx.heap.size = b1 := by omega
      have n2 : ¬ wx.heap.size + 1 = b1 := by omega
      have n3 : ¬ wx.heap.size = b2 := by omega
      have n4 : ¬ wx.heap.size + 1 = b2 := by omega
      have n5 : ¬ wx.heap.size = w.heap.size := by omega
      have n6 : ¬ wx.heap.size + 1 = w.heap.size := by omega
      have n7 : ¬ wx.heap.size = w.heap.size + 1 := by omega
      obtain ⟨wa, hwa⟩ : ∃ y, wx.alloc (.cells #[.int .i64 0, .int .i64 0, .int .i64 0, .int .i64 0, .slice none 0 0, .string ⟨#[]⟩] 58) = y := ⟨_, rfl⟩
      have hba := below_box wx (.cells #[.int .i64 0, .int .i64 0, .int .i64 0, .int .i64 0, .slice none 0 0, .string ⟨#[]⟩] 58)
      have hna : (wx.alloc (.cells #[.int .i64 0, .int .i64 0, .int .i64 0, .int .i64 0, .slice none 0 0, .string ⟨#[]⟩] 58)).heap[wx.heap.size]? = some (.cells #[.int .i64 0, .int .i64 0, .int .i64 0, .int .i64 0, .slice none 0 0, .string ⟨#[]⟩] 58) := heap_alloc_new wx _
      have hza : (wx.alloc (.cells #[.int .i64 0, .int .i64 0, .int .i64 0, .int .i64 0, .slice none 0 0, .string ⟨#[]⟩] 58)).heap.size = wx.heap.size + 1 := World.size_alloc _ _
      rw [hwa] at hba hna hza
      obtain ⟨wb, hwb⟩ : ∃ y, wa.alloc (.cells #[.int .i64 0, .int .i64 0, .int .i64 0, .int .i64 0, .slice none 0 0, .string ⟨#[]⟩] 58) = y := ⟨_, rfl⟩
      have hbb := below_box wa (.cells #[.int .i64 0, .int .i64 0, .int .i64 0, .int .i64 0, .slice none 0 0, .string ⟨#[]⟩] 58)
      have hnb : (wa.alloc (.cells #[.int .i64 0, .int .i64 0, .int .i64 0, .int .i64 0, .slice none 0 0, .string ⟨#[]⟩] 58)).heap[wa.heap.size]? = some (.cells #[.int .i64 0, .int .i64 0, .int .i64 0, .int .i64 0, .slice none 0 0, .string ⟨#[]⟩] 58) := heap_alloc_new wa _
      rw [hwb] at hbb hnb
      rw [hza] at hnb
      have hnc : wb.heap[wx.heap.size]? = some (.cells #[.int .i64 0, .int .i64 0, .int .i64 0, .int .i64 0, .slice none 0 0, .string ⟨#[]⟩] 58) := by rw [hbb.block _ (by rw [hza]; omega)]; exact hna
      have x0a : wa.cell? ⟨b1, o1 + j * 6, none⟩ = some (.int .i64 o.kind) := (hba.cell (World.block_lt_of_cell? wx _ x0)).trans x0
      have x0b : wb.cell? ⟨b1, o1 + j * 6, none⟩ = some (.int .i64 o.kind) := (hbb.cell (World.block_lt_of_cell? wa _ x0a)).trans x0a
      have y0a : wa.cell? ⟨b2, o2 + j * 6, none⟩ = some (.int .i64 o.kind) := (hba.cell (World.block_lt_of_cell? wx _ y0)).trans y0
      have y0b : wb.cell? ⟨b2, o2 + j * 6, none⟩ = some (.int .i64 o.kind) := (hbb.cell (World.block_lt_of_cell? wa _ y0a)).trans y0a
      have x1a : wa.cell? ⟨b1, o1 + j * 6 + 1, none⟩ = some (.int .i64 o.a) := (hba.cell (World.block_lt_of_cell? wx _ x1)).trans x1
      have x1b : wb.cell? ⟨b1, o1 + j * 6 + 1, none⟩ = some (.int .i64 o.a) := (hbb.cell (World.block_lt_of_cell? wa _ x1a)).trans x1a
      have y1a : wa.cell? ⟨b2, o2 + j * 6 + 1, none⟩ = some (.int .i64 o.a) := (hba.cell (World.block_lt_of_cell? wx _ y1)).trans y1
      have y1b : wb.cell? ⟨b2, o2 + j * 6 + 1, none⟩ = some (.int .i64 o.a) := (hbb.cell (World.block_lt_of_cell? wa _ y1a)).trans y1a
      have x2a : wa.cell? ⟨b1, o1 + j * 6 + 2, none⟩ = some (.int .i64 o.b) := (hba.cell (World.block_lt_of_cell? wx _ x2)).trans x2
      have x2b : wb.cell? ⟨b1, o1 + j * 6 + 2, none⟩ = some (.int .i64 o.b) := (hbb.cell (World.block_lt_of_cell? wa _ x2a)).trans x2a
      have y2a : wa.cell? ⟨b2, o2 + j * 6 + 2, none⟩ = some (.int .i64 o.b) := (hba.cell (World.block_lt_of_cell? wx _ y2)).trans y2
      have y2b : wb.cell? ⟨b2, o2 + j * 6 + 2, none⟩ = some (.int .i64 o.b) := (hbb.cell (World.block_lt_of_cell? wa _ y2a)).trans y2a
      have x3a : wa.cell? ⟨b1, o1 + j * 6 + 3, none⟩ = some (.int .i64 o.c) := (hba.cell (World.block_lt_of_cell? wx _ x3)).trans x3
      have x3b : wb.cell? ⟨b1, o1 + j * 6 + 3, none⟩ = some (.int .i64 o.c) := (hbb.cell (World.block_lt_of_cell? wa _ x3a)).trans x3a
      have y3a : wa.cell? ⟨b2, o2 + j * 6 + 3, none⟩ = some (.int .i64 o.c) := (hba.cell (World.block_lt_of_cell? wx _ y3)).trans y3
      have y3b : wb.cell? ⟨b2, o2 + j * 6 + 3, none⟩ = some (.int .i64 o.c) := (hbb.cell (World.block_lt_of_cell? wa _ y3a)).trans y3a
      have x4a : wa.cell? ⟨b1, o1 + j * 6 + 4, none⟩ = some (.slice a5 o.list.length e5) := (hba.cell (World.block_lt_of_cell? wx _ x4)).trans x4
      have x4b : wb.cell? ⟨b1, o1 + j * 6 + 4, none⟩ = some (.slice a5 o.list.length e5) := (hbb.cell (World.block_lt_of_cell? wa _ x4a)).trans x4a
      have y4a : wa.cell? ⟨b2, o2 + j * 6 + 4, none⟩ = some (.slice b5 o.list.length f5) := (hba.cell (World.block_lt_of_cell? wx _ y4)).trans y4
      have y4b : wb.cell? ⟨b2, o2 + j * 6 + 4, none⟩ = some (.slice b5 o.list.length f5) := (hbb.cell (World.block_lt_of_cell? wa _ y4a)).trans y4a
      have x5a : wa.cell? ⟨b1, o1 + j * 6 + 5, none⟩ = some (.string o.sym) := (hba.cell (World.block_lt_of_cell? wx _ x5)).trans x5
      have x5b : wb.cell? ⟨b1, o1 + j * 6 + 5, none⟩ = some (.string o.sym) := (hbb.cell (World.block_lt_of_cell? wa _ x5a)).trans x5a
      have y5a : wa.cell? ⟨b2, o2 + j * 6 + 5, none⟩ = some (.string o.sym) := (hba.cell (World.block_lt_of_cell? wx _ y5)).trans y5
      have y5b : wb.cell? ⟨b2, o2 + j * 6 + 5, none⟩ = some (.string o.sym) := (hbb.cell (World.block_lt_of_cell? wa _ y5a)).trans y5a
      have u2a : wa.cell? ⟨w.heap.size, 2, none⟩ = some (.slice (some ⟨b1, o1, none⟩) n c1) := (hba.cell (World.block_lt_of_cell? wx _ u2)).trans u2
      have u2b : wb.cell? ⟨w.heap.size, 2, none⟩ = some (.slice (some ⟨b1, o1, none⟩) n c1) := (hbb.cell (World.block_lt_of_cell? wa _ u2a)).trans u2a
      have v2a : wa.cell? ⟨w.heap.size + 1, 2, none⟩ = some (.slice (some ⟨b2, o2, none⟩) n c2) := (hba.cell (World.block_lt_of_cell? wx _ v2)).trans v2
      have v2b : wb.cell? ⟨w.heap.size + 1, 2, none⟩ = some (.slice (some ⟨b2, o2, none⟩) n c2) := (hbb.cell (World.block_lt_of_cell? wa _ v2a)).trans v2a
      have z0 : wb.cell? ⟨wx.heap.size, 0, none⟩ = some (.int .i64 0) := by rw [Lib.cell_of_heap hnc]; rfl
      have zz0 : wb.cell? ⟨wx.heap.size + 1, 0, none⟩ = some (.int .i64 0) := by rw [Lib.cell_of_heap hnb]; rfl
      have g0 : wb.frozen? ⟨wx.heap.size, 0, none⟩ = false := Lib.frozen_of_heap hnc 0
      have gg0 : wb.frozen? ⟨wx.heap.size + 1, 0, none⟩ = false := Lib.frozen_of_heap hnb 0
      have z1 : wb.cell? ⟨wx.heap.size, 1, none⟩ = some (.int .i64 0) := by rw [Lib.cell_of_heap hnc]; rfl
      have zz1 : wb.cell? ⟨wx.heap.size + 1, 1, none⟩ = some (.int .i64 0) := by rw [Lib.cell_of_heap hnb]; rfl
      have g1 : wb.frozen? ⟨wx.heap.size, 1, none⟩ = false := Lib.frozen_of_heap hnc 1
      have gg1 : wb.frozen? ⟨wx.heap.size + 1, 1, none⟩ = false := Lib.frozen_of_heap hnb 1
      have z2 : wb.cell? ⟨wx.heap.size, 2, none⟩ = some (.int .i64 0) := by rw [Lib.cell_of_heap hnc]; rfl
      have zz2 : wb.cell? ⟨wx.heap.size + 1, 2, none⟩ = some (.int .i64 0) := by rw [Lib.cell_of_heap hnb]; rfl
      have g2 : wb.frozen? ⟨wx.heap.size, 2, none⟩ = false := Lib.frozen_of_heap hnc 2
      have gg2 : wb.frozen? ⟨wx.heap.size + 1, 2, none⟩ = false := Lib.frozen_of_heap hnb 2
      have z3 : wb.cell? ⟨wx.heap.size, 3, none⟩ = some (.int .i64 0) := by rw [Lib.cell_of_heap hnc]; rfl
      have zz3 : wb.cell? ⟨wx.heap.size + 1, 3, none⟩ = some (.int .i64 0) := by rw [Lib.cell_of_heap hnb]; rfl
      have g3 : wb.frozen? ⟨wx.heap.size, 3, none⟩ = false := Lib.frozen_of_heap hnc 3
      have gg3 : wb.frozen? ⟨wx.heap.size + 1, 3, none⟩ = false := Lib.frozen_of_heap hnb 3
      have z4 : wb.cell? ⟨wx.heap.size, 4, none⟩ = some (.slice none 0 0) := by rw [Lib.cell_of_heap hnc]; rfl
      have zz4 : wb.cell? ⟨wx.heap.size + 1, 4, none⟩ = some (.slice none 0 0) := by rw [Lib.cell_of_heap hnb]; rfl
      have g4 : wb.frozen? ⟨wx.heap.size, 4, none⟩ = false := Lib.frozen_of_heap hnc 4
      have gg4 : wb.frozen? ⟨wx.heap.size + 1, 4, none⟩ = false := Lib.frozen_of_heap hnb 4
      have z5 : wb.cell? ⟨wx.heap.size, 5, none⟩ = some (.string ⟨#[]⟩) := by rw [Lib.cell_of_heap hnc]; rfl
      have zz5 : wb.cell? ⟨wx.heap.size + 1, 5, none⟩ = some (.string ⟨#[]⟩) := by rw [Lib.cell_of_heap hnb]; rfl
      have g5 : wb.frozen? ⟨wx.heap.size, 5, none⟩ = false := Lib.frozen_of_heap hnc 5
      have gg5 : wb.frozen? ⟨wx.heap.size + 1, 5, none⟩ = false := Lib.frozen_of_heap hnb 5
      have HNB := Lib.hid hnb
      have HNC := Lib.hid hnc
      have HBB := Lib.hid ((HB.out.trans (hba.mono HB.out.size)).trans (hbb.mono (Nat.le_trans HB.out.size hba.size)))
      have HSX := Lib.hid HB.out.size
      have HQ := Lib.hid (show ∀ z : Int, (z != z) = false from fun z => by simp)
      have HM1 := Lib.hid hm1
      have HM2 := Lib.hid hm2
      clear hg1 hg2 a1 a2 hr1 hr2 lt1 lt2 lt3 hba hna hbb hnb hnc hm1 hm2
      go_wp2_with fail
      go_region
      · obtain ⟨wf, hwf, hbut, p0, p1, p2, p3, p4, p5, q0, q1, q2, q3, q4, q5⟩ := two_storesD (o := o) (a5 := a5) (e5 := e5) (b5 := b5) (f5 := f5) HNC.out HNB.out (Nat.ne_of_lt (Nat.lt_succ_self _))
        rw [hwf]
        have HBF := Lib.hid (below_two HBB.out (HSX.out) (Nat.le_succ_of_le HSX.out) hbut)
        clear hbut hwf x0 y0 x0a y0a x0b y0b z0 zz0 g0 gg0 x1 y1 x1a y1a x1b y1b z1 zz1 g1 gg1 x2 y2 x2a y2a x2b y2b z2 zz2 g2 gg2 x3 y3 x3a y3a x3b y3b z3 zz3 g3 gg3 x4 y4 x4a y4a x4b y4b z4 zz4 g4 gg4 x5 y5 x5a y5a x5b y5b z5 zz5 g5 gg5 u2 v2 u2a v2a u2b v2b hwa hwb hza m1 m2 m3 m4 m5 m6 m7 n1 n2 n3 n4 n5 n6 n7
        have r0 : (o.kind != o.kind) = false := HQ.out _
        have r1 : (o.a != o.a) = false := HQ.out _
        have r2 : (o.b != o.b) = false := HQ.out _
        have r3 : (o.c != o.c) = false := HQ.out _
        have r5 : (o.sym.toList == o.sym.toList) = true := beq_self_eq_true _
        have HWF2 := Lib.hid (HB0.out.trans (HBF.out.mono HB0.out.size))
        have HNS := Lib.hid (sameNums_eq A B o.list a5 b5 e5 f5 wf (HM1.out.keep (Kp.below HWF2.out)) (HM2.out.keep (Kp.below HWF2.out)))
        go_wp2_with fail
        refine HNS.out.mono ?_
        rintro e w9 ⟨rfl, hb9⟩
        have HB9 := Lib.hid (HBF.out.trans (hb9.mono HBF.out.size))
        clear hb9
        go_wp2_with fail
        go_roundw
        case rel => exact ⟨j + 1, by omega, by go_num, HB9.out⟩
        case measure => simp [intOf]; omega
      · obtain ⟨wf, hwf, hbut, p0, p1, p2, p3, p4, p5, q0, q1, q2, q3, q4, q5⟩ := two_storesD (o := o) (a5 := a5) (e5 := e5) (b5 := b5) (f5 := f5) HNB.out HNC.out (Nat.ne_of_gt (Nat.lt_succ_self _))
        rw [hwf]
        have HBF := Lib.hid (below_two HBB.out (Nat.le_succ_of_le HSX.out) (HSX.out) hbut)
        clear hbut hwf x0 y0 x0a y0a x0b y0b z0 zz0 g0 gg0 x1 y1 x1a y1a x1b y1b z1 zz1 g1 gg1 x2 y2 x2a y2a x2b y2b z2 zz2 g2 gg2 x3 y3 x3a y3a x3b y3b z3 zz3 g3 gg3 x4 y4 x4a y4a x4b y4b z4 zz4 g4 gg4 x5 y5 x5a y5a x5b y5b z5 zz5 g5 gg5 u2 v2 u2a v2a u2b v2b hwa hwb hza m1 m2 m3 m4 m5 m6 m7 n1 n2 n3 n4 n5 n6 n7
        have r0 : (o.kind != o.kind) = false := HQ.out _
        have r1 : (o.a != o.a) = false := HQ.out _
        have r2 : (o.b != o.b) = false := HQ.out _
        have r3 : (o.c != o.c) = false := HQ.out _
        have r5 : (o.sym.toList == o.sym.toList) = true := beq_self_eq_true _
        have HWF2 := Lib.hid (HB0.out.trans (HBF.out.mono HB0.out.size))
        have HNS := Lib.hid (sameNums_eq A B o.list a5 b5 e5 f5 wf (HM1.out.keep (Kp.below HWF2.out)) (HM2.out.keep (Kp.below HWF2.out)))
        go_wp2_with fail
        refine HNS.out.mono ?_
        rintro e w9 ⟨rfl, hb9⟩
        have HB9 := Lib.hid (HBF.out.trans (hb9.mono HBF.out.size))
        clear hb9
        go_wp2_with fail
        go_roundw
        case rel => exact ⟨j + 1, by omega, by go_num, HB9.out⟩
        case measure => simp [intOf]; omega
    · obtain rfl : j = n := by omega
      go_wp2_with fail
      go_ret
      exact ⟨rfl, HB0.out.trans (HB.out.mono HB0.out.size)⟩
end Go.Proofs.YthikdkeanndidaaDoor
