/-
  CONTRACT: the reference's SameCode of any two codes.
-/
import Derived.Test.YthikdkeanndidaaDoorZs1
import Derived.Test.YthikdkeanndidaaDoorCi
import Derived.BigRegion
import Derived.RegionTactic
import Derived.Test.YthikdkeanndidaaDoorCoA
import Derived.Test.YthikdkeanndidaaDoorCl
import Derived.Test.YthikdkeanndidaaDoorFaA
namespace Go.Proofs.YthikdkeanndidaaDoor
open Go Go.RowKit
set_option linter.unusedVariables false
set_option linter.unusedSimpArgs false
set_option maxRecDepth 1000000

theorem Opp.ext' {x y : Opp} (h1 : x.kind = y.kind) (h2 : x.a = y.a) (h3 : x.b = y.b) (h4 : x.c = y.c) (h5 : x.list = y.list) (h6 : x.sym = y.sym) : x = y := by
  cases x; cases y; cases h1; cases h2; cases h3; cases h4; cases h5; cases h6; rfl
theorem Cdd.ext' {x y : Cdd} (h1 : x.params = y.params) (h2 : x.regs = y.regs) (h3 : x.ops = y.ops) : x = y := by
  cases x; cases y; cases h1; cases h2; cases h3; rfl
theorem below_twoG {n B6 B7 : Nat} {w1 wb wf : World} (h : Below n w1 wb) (h6 : n ≤ B6) (h7 : n ≤ B7) (hb : But (fun a => a.block = B6 ∨ a.block = B7) wb wf) (hn : n ≤ w1.heap.size := by exact Nat.le_refl _) : Below n w1 wf :=
  h.trans (But.below hb (Nat.le_trans hn h.size) (fun a e => by rcases e with e | e <;> omega))
theorem bneI_eq {a b : Int} (h : a = b) : (a != b) = false := by subst h; simp
theorem bneI_ne {a b : Int} (h : ¬ a = b) : (a != b) = true := by simpa using h

theorem two_storesF {wb : World} {B6 B7 : Nat} {o u : Opp} {a5 b5 : Option Addr} {e5 f5 : Nat} (h6 : wb.heap[B6]? = some (.cells #[.int .i64 0, .int .i64 0, .int .i64 0, .int .i64 0, .slice none 0 0, .string ⟨#[]⟩] 58)) (h7 : wb.heap[B7]? = some (.cells #[.int .i64 0, .int .i64 0, .int .i64 0, .int .i64 0, .slice none 0 0, .string ⟨#[]⟩] 58)) (hne : B6 ≠ B7) :
    ((((((((((((wb.setCell ⟨B6, 0, none⟩ (.int .i64 o.kind)).setCell ⟨B6, 1, none⟩ (.int .i64 o.a)).setCell ⟨B6, 2, none⟩ (.int .i64 o.b)).setCell ⟨B6, 3, none⟩ (.int .i64 o.c)).setCell ⟨B6, 4, none⟩ (.slice a5 o.list.length e5)).setCell ⟨B6, 5, none⟩ (.string o.sym)).setCell ⟨B7, 0, none⟩ (.int .i64 u.kind)).setCell ⟨B7, 1, none⟩ (.int .i64 u.a)).setCell ⟨B7, 2, none⟩ (.int .i64 u.b)).setCell ⟨B7, 3, none⟩ (.int .i64 u.c)).setCell ⟨B7, 4, none⟩ (.slice b5 u.list.length f5)).setCell ⟨B7, 5, none⟩ (.string u.sym)).heap[B6]? = some (.cells #[.int .i64 o.kind, .int .i64 o.a, .int .i64 o.b, .int .i64 o.c, .slice a5 o.list.length e5, .string o.sym] 58 (0, 0)) ∧ ((((((((((((wb.setCell ⟨B6, 0, none⟩ (.int .i64 o.kind)).setCell ⟨B6, 1, none⟩ (.int .i64 o.a)).setCell ⟨B6, 2, none⟩ (.int .i64 o.b)).setCell ⟨B6, 3, none⟩ (.int .i64 o.c)).setCell ⟨B6, 4, none⟩ (.slice a5 o.list.length e5)).setCell ⟨B6, 5, none⟩ (.string o.sym)).setCell ⟨B7, 0, none⟩ (.int .i64 u.kind)).setCell ⟨B7, 1, none⟩ (.int .i64 u.a)).setCell ⟨B7, 2, none⟩ (.int .i64 u.b)).setCell ⟨B7, 3, none⟩ (.int .i64 u.c)).setCell ⟨B7, 4, none⟩ (.slice b5 u.list.length f5)).setCell ⟨B7, 5, none⟩ (.string u.sym)).heap[B7]? = some (.cells #[.int .i64 u.kind, .int .i64 u.a, .int .i64 u.b, .int .i64 u.c, .slice b5 u.list.length f5, .string u.sym] 58 (0, 0)) ∧ But (fun a => a.block = B6 ∨ a.block = B7) wb ((((((((((((wb.setCell ⟨B6, 0, none⟩ (.int .i64 o.kind)).setCell ⟨B6, 1, none⟩ (.int .i64 o.a)).setCell ⟨B6, 2, none⟩ (.int .i64 o.b)).setCell ⟨B6, 3, none⟩ (.int .i64 o.c)).setCell ⟨B6, 4, none⟩ (.slice a5 o.list.length e5)).setCell ⟨B6, 5, none⟩ (.string o.sym)).setCell ⟨B7, 0, none⟩ (.int .i64 u.kind)).setCell ⟨B7, 1, none⟩ (.int .i64 u.a)).setCell ⟨B7, 2, none⟩ (.int .i64 u.b)).setCell ⟨B7, 3, none⟩ (.int .i64 u.c)).setCell ⟨B7, 4, none⟩ (.slice b5 u.list.length f5)).setCell ⟨B7, 5, none⟩ (.string u.sym)) := by
  obtain ⟨-, -, k1⟩ := op_store h6 o.kind o.a o.b o.c a5 o.list.length e5 o.sym
  have b1 := op_but (w := wb) (B := B6) o.kind o.a o.b o.c a5 o.list.length e5 o.sym
  have h7' := (b1.block B7 (World.heap_lt h7) (fun a e q => hne (by rw [← e]; exact q.symm))).trans h7
  obtain ⟨-, -, k2⟩ := op_store h7' u.kind u.a u.b u.c b5 u.list.length f5 u.sym
  have b2 := op_but (w := ((((((wb.setCell ⟨B6, 0, none⟩ (.int .i64 o.kind)).setCell ⟨B6, 1, none⟩ (.int .i64 o.a)).setCell ⟨B6, 2, none⟩ (.int .i64 o.b)).setCell ⟨B6, 3, none⟩ (.int .i64 o.c)).setCell ⟨B6, 4, none⟩ (.slice a5 o.list.length e5)).setCell ⟨B6, 5, none⟩ (.string o.sym))) (B := B7) u.kind u.a u.b u.c b5 u.list.length f5 u.sym
  exact ⟨(b2.block B6 (World.heap_lt k1) (fun a e q => hne (by rw [← e]; exact q))).trans k1, k2, (b1.mono (fun a e => .inl e)).trans (b2.mono (fun a e => .inr e))⟩

theorem two_storesG {wb : World} {B6 B7 : Nat} {o u : Opp} {a5 b5 : Option Addr} {e5 f5 : Nat} (h6 : wb.heap[B6]? = some (.cells #[.int .i64 0, .int .i64 0, .int .i64 0, .int .i64 0, .slice none 0 0, .string ⟨#[]⟩] 58)) (h7 : wb.heap[B7]? = some (.cells #[.int .i64 0, .int .i64 0, .int .i64 0, .int .i64 0, .slice none 0 0, .string ⟨#[]⟩] 58)) (hne : B6 ≠ B7) :
    ∃ wf, ((((((((((((wb.setCell ⟨B6, 0, none⟩ (.int .i64 o.kind)).setCell ⟨B6, 1, none⟩ (.int .i64 o.a)).setCell ⟨B6, 2, none⟩ (.int .i64 o.b)).setCell ⟨B6, 3, none⟩ (.int .i64 o.c)).setCell ⟨B6, 4, none⟩ (.slice a5 o.list.length e5)).setCell ⟨B6, 5, none⟩ (.string o.sym)).setCell ⟨B7, 0, none⟩ (.int .i64 u.kind)).setCell ⟨B7, 1, none⟩ (.int .i64 u.a)).setCell ⟨B7, 2, none⟩ (.int .i64 u.b)).setCell ⟨B7, 3, none⟩ (.int .i64 u.c)).setCell ⟨B7, 4, none⟩ (.slice b5 u.list.length f5)).setCell ⟨B7, 5, none⟩ (.string u.sym)).drew = wf ∧ But (fun a => a.block = B6 ∨ a.block = B7) wb wf ∧ wf.cell? ⟨B6, 0, none⟩ = some (.int .i64 o.kind) ∧ wf.cell? ⟨B6, 1, none⟩ = some (.int .i64 o.a) ∧ wf.cell? ⟨B6, 2, none⟩ = some (.int .i64 o.b) ∧ wf.cell? ⟨B6, 3, none⟩ = some (.int .i64 o.c) ∧ wf.cell? ⟨B6, 4, none⟩ = some (.slice a5 o.list.length e5) ∧ wf.cell? ⟨B6, 5, none⟩ = some (.string o.sym) ∧ wf.cell? ⟨B7, 0, none⟩ = some (.int .i64 u.kind) ∧ wf.cell? ⟨B7, 1, none⟩ = some (.int .i64 u.a) ∧ wf.cell? ⟨B7, 2, none⟩ = some (.int .i64 u.b) ∧ wf.cell? ⟨B7, 3, none⟩ = some (.int .i64 u.c) ∧ wf.cell? ⟨B7, 4, none⟩ = some (.slice b5 u.list.length f5) ∧ wf.cell? ⟨B7, 5, none⟩ = some (.string u.sym) := by
  obtain ⟨k6, k7, hb⟩ := two_storesF (o := o) (u := u) (a5 := a5) (e5 := e5) (b5 := b5) (f5 := f5) h6 h7 hne
  generalize ((((((((((((wb.setCell ⟨B6, 0, none⟩ (.int .i64 o.kind)).setCell ⟨B6, 1, none⟩ (.int .i64 o.a)).setCell ⟨B6, 2, none⟩ (.int .i64 o.b)).setCell ⟨B6, 3, none⟩ (.int .i64 o.c)).setCell ⟨B6, 4, none⟩ (.slice a5 o.list.length e5)).setCell ⟨B6, 5, none⟩ (.string o.sym)).setCell ⟨B7, 0, none⟩ (.int .i64 u.kind)).setCell ⟨B7, 1, none⟩ (.int .i64 u.a)).setCell ⟨B7, 2, none⟩ (.int .i64 u.b)).setCell ⟨B7, 3, none⟩ (.int .i64 u.c)).setCell ⟨B7, 4, none⟩ (.slice b5 u.list.length f5)).setCell ⟨B7, 5, none⟩ (.string u.sym)) = x at k6 k7 hb ⊢
  have k6 : x.drew.heap[B6]? = some (.cells #[.int .i64 o.kind, .int .i64 o.a, .int .i64 o.b, .int .i64 o.c, .slice a5 o.list.length e5, .string o.sym] 58 (0, 0)) := k6
  have k7 : x.drew.heap[B7]? = some (.cells #[.int .i64 u.kind, .int .i64 u.a, .int .i64 u.b, .int .i64 u.c, .slice b5 u.list.length f5, .string u.sym] 58 (0, 0)) := k7
  exact ⟨x.drew, rfl, hb.trans (But.drew x), by rw [Lib.cell_of_heap k6]; rfl, by rw [Lib.cell_of_heap k6]; rfl, by rw [Lib.cell_of_heap k6]; rfl, by rw [Lib.cell_of_heap k6]; rfl, by rw [Lib.cell_of_heap k6]; rfl, by rw [Lib.cell_of_heap k6]; rfl, by rw [Lib.cell_of_heap k7]; rfl, by rw [Lib.cell_of_heap k7]; rfl, by rw [Lib.cell_of_heap k7]; rfl, by rw [Lib.cell_of_heap k7]; rfl, by rw [Lib.cell_of_heap k7]; rfl, by rw [Lib.cell_of_heap k7]; rfl⟩

set_option maxHeartbeats 8000000 in
/-- the reference's SameCode -/
theorem sameCode_any (A B : Nat → Prop) (x y : Cdd) (p1 p2 : Option Addr) (c1 c2 : Nat) (w : World) (h1 : OpsA A w (.slice p1 x.ops.length c1) x.ops) (h2 : OpsA B w (.slice p2 y.ops.length c2) y.ops) :
    Calls Tryd.prog 16 #[.agg #[.int .i64 x.params, .int .i64 x.regs, .slice p1 x.ops.length c1], .agg #[.int .i64 y.params, .int .i64 y.regs, .slice p2 y.ops.length c2]] w fun e w' => ∃ b : Bool, e = .returned (.bool b) ∧ (b = true ↔ x = y) ∧ Below w.heap.size w w' := by
  obtain ⟨R1, hR1, hs1, hl1⟩ := h1
  obtain ⟨R2, hR2, hs2, hl2⟩ := h2
  have e1 : R1.length = x.ops.length := by rw [← hR1, List.length_map]
  have e2 : R2.length = y.ops.length := by rw [← hR2, List.length_map]
  obtain ⟨n, hn⟩ : ∃ n, n = x.ops.length := ⟨_, rfl⟩
  obtain ⟨m, hm⟩ : ∃ m, m = y.ops.length := ⟨_, rfl⟩
  rw [← hn] at e1 hs1 ⊢
  rw [← hm] at e2 hs2 ⊢
  have HN := Lib.hid hn
  have HM := Lib.hid hm
  have hs1' := hs1
  have hs2' := hs2
  rw [← e1] at hs1'
  rw [← e2] at hs2'
  obtain ⟨-, hm1, g1⟩ := hs1'.at_
  obtain ⟨-, hm2, g2⟩ := hs2'.at_
  unfold maxLen at hm1 hm2
  have hmn : n ≤ 9223372036854775807 := by omega
  have hmm : m ≤ 9223372036854775807 := by omega
  have G1 := Lib.hid g1
  have G2 := Lib.hid g2
  have HL1 := Lib.hid hl1
  have HL2 := Lib.hid hl2
  have HE1 := Lib.hid e1
  have HE2 := Lib.hid e2
  have HR1 := Lib.hid hR1
  have HR2 := Lib.hid hR2
  obtain ⟨w0, hw0⟩ : ∃ yy, w.alloc (.cells #[.int .i64 x.params, .int .i64 x.regs, .slice p1 n c1] 24) = yy := ⟨_, rfl⟩
  have hb0 := below_box w (.cells #[.int .i64 x.params, .int .i64 x.regs, .slice p1 n c1] 24)
  have hc0 : CellsAt (w.alloc (.cells #[.int .i64 x.params, .int .i64 x.regs, .slice p1 n c1] 24)) w.heap.size 0 [.int .i64 x.params, .int .i64 x.regs, .slice p1 n c1] := cellsAt_alloc w [.int .i64 x.params, .int .i64 x.regs, .slice p1 n c1] _
  have hz0 : (w.alloc (.cells #[.int .i64 x.params, .int .i64 x.regs, .slice p1 n c1] 24)).heap.size = w.heap.size + 1 := World.size_alloc _ _
  rw [hw0] at hb0 hc0 hz0
  obtain ⟨w1, hw1⟩ : ∃ yy, w0.alloc (.cells #[.int .i64 y.params, .int .i64 y.regs, .slice p2 m c2] 24) = yy := ⟨_, rfl⟩
  have hb1 := below_box w0 (.cells #[.int .i64 y.params, .int .i64 y.regs, .slice p2 m c2] 24)
  have hc1 : CellsAt (w0.alloc (.cells #[.int .i64 y.params, .int .i64 y.regs, .slice p2 m c2] 24)) w0.heap.size 0 [.int .i64 y.params, .int .i64 y.regs, .slice p2 m c2] := cellsAt_alloc w0 [.int .i64 y.params, .int .i64 y.regs, .slice p2 m c2] _
  rw [hw1] at hb1 hc1
  rw [hz0] at hc1
  have HC0 := Lib.hid (hc0.below hb1)
  have HC1 := Lib.hid hc1
  have HB0 := Lib.hid (bnext hb0 hb1)
  have u0 : w1.cell? ⟨w.heap.size, 0, none⟩ = some (.int .i64 x.params) := HC0.out 0 _ rfl
  have u1 : w1.cell? ⟨w.heap.size, 1, none⟩ = some (.int .i64 x.regs) := HC0.out 1 _ rfl
  have u2 : w1.cell? ⟨w.heap.size, 2, none⟩ = some (.slice p1 n c1) := HC0.out 2 _ rfl
  have v0 : w1.cell? ⟨w.heap.size + 1, 0, none⟩ = some (.int .i64 y.params) := HC1.out 0 _ rfl
  have v1 : w1.cell? ⟨w.heap.size + 1, 1, none⟩ = some (.int .i64 y.regs) := HC1.out 1 _ rfl
  have v2 : w1.cell? ⟨w.heap.size + 1, 2, none⟩ = some (.slice p2 m c2) := HC1.out 2 _ rfl
  clear hs1 hs2 hs1' hs2' g1 g2 hl1 hl2 e1 e2 hR1 hR2 hb0 hc0 hb1 hc1 hn hm hm1 hm2
  by_cases hp : x.params = y.params
  case neg =>
    have q0 := bneI_ne hp
    have HNE := Lib.hid hp
    clear hp
    go_enter Tryd.func16, Tryd.ntmps16
    go_wp2_with fail
    go_ret
    exact ⟨false, rfl, ⟨fun h => (by cases h), fun h => absurd (by rw [h]) HNE.out⟩, HB0.out⟩
  have q0 := bneI_eq hp
  have HPE := Lib.hid hp
  clear hp
  by_cases hp : x.regs = y.regs
  case neg =>
    have q1 := bneI_ne hp
    have HNE := Lib.hid hp
    clear hp
    go_enter Tryd.func16, Tryd.ntmps16
    go_wp2_with fail
    go_ret
    exact ⟨false, rfl, ⟨fun h => (by cases h), fun h => absurd (by rw [h]) HNE.out⟩, HB0.out⟩
  have q1 := bneI_eq hp
  have HRE := Lib.hid hp
  clear hp
  by_cases hp : n = m
  case neg =>
    have q2 : ((n : Int) != (m : Int)) = true := bneI_ne (by omega)
    have HNE := Lib.hid hp
    clear hp
    go_enter Tryd.func16, Tryd.ntmps16
    go_wp2_with fail
    go_ret
    exact ⟨false, rfl, ⟨fun h => (by cases h), fun h => absurd (by rw [HN.out, HM.out, h]) HNE.out⟩, HB0.out⟩
  subst hp
  have q2 : ((n : Int) != (n : Int)) = false := by simp
  go_enter Tryd.func16, Tryd.ntmps16
  go_wp2_with fail
  clear u0 u1 u2 v0 v1 v2 q0 q1 q2
  go_loopw [5] (fun i wr => ∃ j : Nat, j ≤ n ∧ i = .int .i64 j ∧ Hid (Below w1.heap.size w1 wr) ∧ Hid (∀ i (a : i < x.ops.length) (b : i < y.ops.length), i < j → x.ops[i] = y.ops[i])) (fun i _ => n - (intOf i).toNat)
  case atStart => exact ⟨0, Nat.zero_le _, rfl, Below.refl _ _, fun i a b h => by omega⟩
  case round =>
    obtain ⟨j, hj, rfl, HB, HE⟩ := hrel
    obtain ⟨wx, rfl⟩ : ∃ x, x = wr := ⟨wr, rfl⟩
    have u2 : wx.cell? ⟨w.heap.size, 2, none⟩ = some (.slice p1 n c1) := HC0.out.below HB.out 2 _ rfl
    have v2 : wx.cell? ⟨w.heap.size + 1, 2, none⟩ = some (.slice p2 n c2) := HC1.out.below HB.out 2 _ rfl
    clear hw0 hw1 hz0
    by_cases hlt : j < n
    · have hlti : (j : Int) < (n : Int) := by omega
      have hj1 : j < R1.length := by rw [HE1.out]; exact hlt
      have hj2 : j < R2.length := by rw [HE2.out]; exact hlt
      obtain ⟨b1, o1, rfl, -, a1⟩ := G1.out j hj1
      obtain ⟨b2, o2, rfl, -, a2⟩ := G2.out j hj2
      have hm1 := HL1.out (R1[j]'hj1) (List.getElem_mem hj1)
      have hm2 := HL2.out (R2[j]'hj2) (List.getElem_mem hj2)
      have hx1 : x.ops[j]? = some (R1[j]'hj1).1 := by rw [← HR1.out, List.getElem?_map, List.getElem?_eq_getElem hj1]; rfl
      have hx2 : y.ops[j]? = some (R2[j]'hj2).1 := by rw [← HR2.out, List.getElem?_map, List.getElem?_eq_getElem hj2]; rfl
      obtain ⟨r1, hr1⟩ : ∃ r, r = R1[j]'hj1 := ⟨_, rfl⟩
      obtain ⟨r2, hr2⟩ : ∃ r, r = R2[j]'hj2 := ⟨_, rfl⟩
      rw [← hr1] at a1 hm1 hx1
      rw [← hr2] at a2 hm2 hx2
      obtain ⟨o, a5, e5⟩ := r1
      obtain ⟨u, b5, f5⟩ := r2
      have HXX := Lib.hid hx1
      have HXY := Lib.hid (show x = y → o = u from fun h => by subst h; rw [hx1] at hx2; injection hx2)
      have HYY := Lib.hid hx2
      clear hx1 hx2
      have hg1 : ∀ k v, k < 6 → (encOp.cells (o, a5, e5))[k]? = some v → wx.cell? ⟨b1, o1 + j * 6 + k, none⟩ = some v := fun k v hk hv => by
        have h1 : w.cell? ⟨b1, o1 + j * 6 + k, none⟩ = some v := a1 k v hk hv
        rw [(HB0.out.trans (HB.out.mono HB0.out.size)).cell (World.block_lt_of_cell? w _ h1)]
        exact h1
      have hg2 : ∀ k v, k < 6 → (encOp.cells (u, b5, f5))[k]? = some v → wx.cell? ⟨b2, o2 + j * 6 + k, none⟩ = some v := fun k v hk hv => by
        have h1 : w.cell? ⟨b2, o2 + j * 6 + k, none⟩ = some v := a2 k v hk hv
        rw [(HB0.out.trans (HB.out.mono HB0.out.size)).cell (World.block_lt_of_cell? w _ h1)]
        exact h1
      have x0 : wx.cell? ⟨b1, o1 + j * 6, none⟩ = some (.int .i64 o.kind) := hg1 0 _ (by decide) rfl
      have x1 : wx.cell? ⟨b1, o1 + j * 6 + 1, none⟩ = some (.int .i64 o.a) := hg1 1 _ (by decide) rfl
      have x2 : wx.cell? ⟨b1, o1 + j * 6 + 2, none⟩ = some (.int .i64 o.b) := hg1 2 _ (by decide) rfl
      have x3 : wx.cell? ⟨b1, o1 + j * 6 + 3, none⟩ = some (.int .i64 o.c) := hg1 3 _ (by decide) rfl
      have x4 : wx.cell? ⟨b1, o1 + j * 6 + 4, none⟩ = some (.slice a5 o.list.length e5) := hg1 4 _ (by decide) rfl
      have x5 : wx.cell? ⟨b1, o1 + j * 6 + 5, none⟩ = some (.string o.sym) := hg1 5 _ (by decide) rfl
      have y0 : wx.cell? ⟨b2, o2 + j * 6, none⟩ = some (.int .i64 u.kind) := hg2 0 _ (by decide) rfl
      have y1 : wx.cell? ⟨b2, o2 + j * 6 + 1, none⟩ = some (.int .i64 u.a) := hg2 1 _ (by decide) rfl
      have y2 : wx.cell? ⟨b2, o2 + j * 6 + 2, none⟩ = some (.int .i64 u.b) := hg2 2 _ (by decide) rfl
      have y3 : wx.cell? ⟨b2, o2 + j * 6 + 3, none⟩ = some (.int .i64 u.c) := hg2 3 _ (by decide) rfl
      have y4 : wx.cell? ⟨b2, o2 + j * 6 + 4, none⟩ = some (.slice b5 u.list.length f5) := hg2 4 _ (by decide) rfl
      have y5 : wx.cell? ⟨b2, o2 + j * 6 + 5, none⟩ = some (.string u.sym) := hg2 5 _ (by decide) rfl
      have lt1 : b1 < wx.heap.size := World.block_lt_of_cell? wx _ x0
      have lt2 : b2 < wx.heap.size := World.block_lt_of_cell? wx _ y0
      have lt3 : w.heap.size + 1 < wx.heap.size := World.block_lt_of_cell? wx _ v2
      have m1 : ¬ b1 = wx.heap.size := by omega
      have m2 : ¬ b1 = wx.heap.size + 1 := by omega
      have m3 : ¬ b2 = wx.heap.size := by omega
      have m4 : ¬ b2 = wx.heap.size + 1 := by omega
      have m5 : ¬ w.heap.size = wx.heap.size := by omega
      have m6 : ¬ w.heap.size = wx.heap.size + 1 := by omega
      have m7 : ¬ w.heap.size + 1 = wx.heap.size := by omega
      have n1 : ¬ wx.heap.size = b1 := by omega
      have n2 : ¬ wx.heap.size + 1 = b1 := by omega
      have n3 : ¬ wx.heap.size = b2 := by omega
      have n4 : ¬ wx.heap.size + 1 = b2 := by omega
      have n5 : ¬ wx.heap.size = w.heap.size := by omega
      have n6 : ¬ wx.heap.size + 1 = w.heap.size := by omega
      have n7 : ¬ wx.heap.size = w.heap.size + 1 := by omega
      obtain ⟨wa, hwa⟩ : ∃ yy, wx.alloc (.cells #[.int .i64 0, .int .i64 0, .int .i64 0, .int .i64 0, .slice none 0 0, .string ⟨#[]⟩] 58) = yy := ⟨_, rfl⟩
      have hba := below_box wx (.cells #[.int .i64 0, .int .i64 0, .int .i64 0, .int .i64 0, .slice none 0 0, .string ⟨#[]⟩] 58)
      have hna : (wx.alloc (.cells #[.int .i64 0, .int .i64 0, .int .i64 0, .int .i64 0, .slice none 0 0, .string ⟨#[]⟩] 58)).heap[wx.heap.size]? = some (.cells #[.int .i64 0, .int .i64 0, .int .i64 0, .int .i64 0, .slice none 0 0, .string ⟨#[]⟩] 58) := heap_alloc_new wx _
      have hza : (wx.alloc (.cells #[.int .i64 0, .int .i64 0, .int .i64 0, .int .i64 0, .slice none 0 0, .string ⟨#[]⟩] 58)).heap.size = wx.heap.size + 1 := World.size_alloc _ _
      rw [hwa] at hba hna hza
      obtain ⟨wb, hwb⟩ : ∃ yy, wa.alloc (.cells #[.int .i64 0, .int .i64 0, .int .i64 0, .int .i64 0, .slice none 0 0, .string ⟨#[]⟩] 58) = yy := ⟨_, rfl⟩
      have hbb := below_box wa (.cells #[.int .i64 0, .int .i64 0, .int .i64 0, .int .i64 0, .slice none 0 0, .string ⟨#[]⟩] 58)
      have hnb : (wa.alloc (.cells #[.int .i64 0, .int .i64 0, .int .i64 0, .int .i64 0, .slice none 0 0, .string ⟨#[]⟩] 58)).heap[wa.heap.size]? = some (.cells #[.int .i64 0, .int .i64 0, .int .i64 0, .int .i64 0, .slice none 0 0, .string ⟨#[]⟩] 58) := heap_alloc_new wa _
      rw [hwb] at hbb hnb
      rw [hza] at hnb
      have hnc : wb.heap[wx.heap.size]? = some (.cells #[.int .i64 0, .int .i64 0, .int .i64 0, .int .i64 0, .slice none 0 0, .string ⟨#[]⟩] 58) := by rw [hbb.block _ (by rw [hza]; omega)]; exact hna
      have x0a : wa.cell? ⟨b1, o1 + j * 6, none⟩ = some (.int .i64 o.kind) := (hba.cell (World.block_lt_of_cell? wx _ x0)).trans x0
      have x0b : wb.cell? ⟨b1, o1 + j * 6, none⟩ = some (.int .i64 o.kind) := (hbb.cell (World.block_lt_of_cell? wa _ x0a)).trans x0a
      have y0a : wa.cell? ⟨b2, o2 + j * 6, none⟩ = some (.int .i64 u.kind) := (hba.cell (World.block_lt_of_cell? wx _ y0)).trans y0
      have y0b : wb.cell? ⟨b2, o2 + j * 6, none⟩ = some (.int .i64 u.kind) := (hbb.cell (World.block_lt_of_cell? wa _ y0a)).trans y0a
      have x1a : wa.cell? ⟨b1, o1 + j * 6 + 1, none⟩ = some (.int .i64 o.a) := (hba.cell (World.block_lt_of_cell? wx _ x1)).trans x1
      have x1b : wb.cell? ⟨b1, o1 + j * 6 + 1, none⟩ = some (.int .i64 o.a) := (hbb.cell (World.block_lt_of_cell? wa _ x1a)).trans x1a
      have y1a : wa.cell? ⟨b2, o2 + j * 6 + 1, none⟩ = some (.int .i64 u.a) := (hba.cell (World.block_lt_of_cell? wx _ y1)).trans y1
      have y1b : wb.cell? ⟨b2, o2 + j * 6 + 1, none⟩ = some (.int .i64 u.a) := (hbb.cell (World.block_lt_of_cell? wa _ y1a)).trans y1a
      have x2a : wa.cell? ⟨b1, o1 + j * 6 + 2, none⟩ = some (.int .i64 o.b) := (hba.cell (World.block_lt_of_cell? wx _ x2)).trans x2
      have x2b : wb.cell? ⟨b1, o1 + j * 6 + 2, none⟩ = some (.int .i64 o.b) := (hbb.cell (World.block_lt_of_cell? wa _ x2a)).trans x2a
      have y2a : wa.cell? ⟨b2, o2 + j * 6 + 2, none⟩ = some (.int .i64 u.b) := (hba.cell (World.block_lt_of_cell? wx _ y2)).trans y2
      have y2b : wb.cell? ⟨b2, o2 + j * 6 + 2, none⟩ = some (.int .i64 u.b) := (hbb.cell (World.block_lt_of_cell? wa _ y2a)).trans y2a
      have x3a : wa.cell? ⟨b1, o1 + j * 6 + 3, none⟩ = some (.int .i64 o.c) := (hba.cell (World.block_lt_of_cell? wx _ x3)).trans x3
      have x3b : wb.cell? ⟨b1, o1 + j * 6 + 3, none⟩ = some (.int .i64 o.c) := (hbb.cell (World.block_lt_of_cell? wa _ x3a)).trans x3a
      have y3a : wa.cell? ⟨b2, o2 + j * 6 + 3, none⟩ = some (.int .i64 u.c) := (hba.cell (World.block_lt_of_cell? wx _ y3)).trans y3
      have y3b : wb.cell? ⟨b2, o2 + j * 6 + 3, none⟩ = some (.int .i64 u.c) := (hbb.cell (World.block_lt_of_cell? wa _ y3a)).trans y3a
      have x4a : wa.cell? ⟨b1, o1 + j * 6 + 4, none⟩ = some (.slice a5 o.list.length e5) := (hba.cell (World.block_lt_of_cell? wx _ x4)).trans x4
      have x4b : wb.cell? ⟨b1, o1 + j * 6 + 4, none⟩ = some (.slice a5 o.list.length e5) := (hbb.cell (World.block_lt_of_cell? wa _ x4a)).trans x4a
      have y4a : wa.cell? ⟨b2, o2 + j * 6 + 4, none⟩ = some (.slice b5 u.list.length f5) := (hba.cell (World.block_lt_of_cell? wx _ y4)).trans y4
      have y4b : wb.cell? ⟨b2, o2 + j * 6 + 4, none⟩ = some (.slice b5 u.list.length f5) := (hbb.cell (World.block_lt_of_cell? wa _ y4a)).trans y4a
      have x5a : wa.cell? ⟨b1, o1 + j * 6 + 5, none⟩ = some (.string o.sym) := (hba.cell (World.block_lt_of_cell? wx _ x5)).trans x5
      have x5b : wb.cell? ⟨b1, o1 + j * 6 + 5, none⟩ = some (.string o.sym) := (hbb.cell (World.block_lt_of_cell? wa _ x5a)).trans x5a
      have y5a : wa.cell? ⟨b2, o2 + j * 6 + 5, none⟩ = some (.string u.sym) := (hba.cell (World.block_lt_of_cell? wx _ y5)).trans y5
      have y5b : wb.cell? ⟨b2, o2 + j * 6 + 5, none⟩ = some (.string u.sym) := (hbb.cell (World.block_lt_of_cell? wa _ y5a)).trans y5a
      have u2a : wa.cell? ⟨w.heap.size, 2, none⟩ = some (.slice (some ⟨b1, o1, none⟩) n c1) := (hba.cell (World.block_lt_of_cell? wx _ u2)).trans u2
      have u2b : wb.cell? ⟨w.heap.size, 2, none⟩ = some (.slice (some ⟨b1, o1, none⟩) n c1) := (hbb.cell (World.block_lt_of_cell? wa _ u2a)).trans u2a
      have v2a : wa.cell? ⟨w.heap.size + 1, 2, none⟩ = some (.slice (some ⟨b2, o2, none⟩) n c2) := (hba.cell (World.block_lt_of_cell? wx _ v2)).trans v2
      have v2b : wb.cell? ⟨w.heap.size + 1, 2, none⟩ = some (.slice (some ⟨b2, o2, none⟩) n c2) := (hbb.cell (World.block_lt_of_cell? wa _ v2a)).trans v2a
      have z0 : wb.cell? ⟨wx.heap.size, 0, none⟩ = some (.int .i64 0) := by rw [Lib.cell_of_heap hnc]; rfl
      have zz0 : wb.cell? ⟨wx.heap.size + 1, 0, none⟩ = some (.int .i64 0) := by rw [Lib.cell_of_heap hnb]; rfl
      have g0 : wb.frozen? ⟨wx.heap.size, 0, none⟩ = false := Lib.frozen_of_heap hnc 0
      have gg0 : wb.frozen? ⟨wx.heap.size + 1, 0, none⟩ = false := Lib.frozen_of_heap hnb 0
      have z1 : wb.cell? ⟨wx.heap.size, 1, none⟩ = some (.int .i64 0) := by rw [Lib.cell_of_heap hnc]; rfl
      have zz1 : wb.cell? ⟨wx.heap.size + 1, 1, none⟩ = some (.int .i64 0) := by rw [Lib.cell_of_heap hnb]; rfl
      have g1 : wb.frozen? ⟨wx.heap.size, 1, none⟩ = false := Lib.frozen_of_heap hnc 1
      have gg1 : wb.frozen? ⟨wx.heap.size + 1, 1, none⟩ = false := Lib.frozen_of_heap hnb 1
      have z2 : wb.cell? ⟨wx.heap.size, 2, none⟩ = some (.int .i64 0) := by rw [Lib.cell_of_heap hnc]; rfl
      have zz2 : wb.cell? ⟨wx.heap.size + 1, 2, none⟩ = some (.int .i64 0) := by rw [Lib.cell_of_heap hnb]; rfl
      have g2 : wb.frozen? ⟨wx.heap.size, 2, none⟩ = false := Lib.frozen_of_heap hnc 2
      have gg2 : wb.frozen? ⟨wx.heap.size + 1, 2, none⟩ = false := Lib.frozen_of_heap hnb 2
      have z3 : wb.cell? ⟨wx.heap.size, 3, none⟩ = some (.int .i64 0) := by rw [Lib.cell_of_heap hnc]; rfl
      have zz3 : wb.cell? ⟨wx.heap.size + 1, 3, none⟩ = some (.int .i64 0) := by rw [Lib.cell_of_heap hnb]; rfl
      have g3 : wb.frozen? ⟨wx.heap.size, 3, none⟩ = false := Lib.frozen_of_heap hnc 3
      have gg3 : wb.frozen? ⟨wx.heap.size + 1, 3, none⟩ = false := Lib.frozen_of_heap hnb 3
      have z4 : wb.cell? ⟨wx.heap.size, 4, none⟩ = some (.slice none 0 0) := by rw [Lib.cell_of_heap hnc]; rfl
      have zz4 : wb.cell? ⟨wx.heap.size + 1, 4, none⟩ = some (.slice none 0 0) := by rw [Lib.cell_of_heap hnb]; rfl
      have g4 : wb.frozen? ⟨wx.heap.size, 4, none⟩ = false := Lib.frozen_of_heap hnc 4
      have gg4 : wb.frozen? ⟨wx.heap.size + 1, 4, none⟩ = false := Lib.frozen_of_heap hnb 4
      have z5 : wb.cell? ⟨wx.heap.size, 5, none⟩ = some (.string ⟨#[]⟩) := by rw [Lib.cell_of_heap hnc]; rfl
      have zz5 : wb.cell? ⟨wx.heap.size + 1, 5, none⟩ = some (.string ⟨#[]⟩) := by rw [Lib.cell_of_heap hnb]; rfl
      have g5 : wb.frozen? ⟨wx.heap.size, 5, none⟩ = false := Lib.frozen_of_heap hnc 5
      have gg5 : wb.frozen? ⟨wx.heap.size + 1, 5, none⟩ = false := Lib.frozen_of_heap hnb 5
      have HNB := Lib.hid hnb
      have HNC := Lib.hid hnc
      have HBB := Lib.hid ((HB.out.trans (hba.mono HB.out.size)).trans (hbb.mono (Nat.le_trans HB.out.size hba.size)))
      have HSX := Lib.hid HB.out.size
      have HQ := Lib.hid (show ∀ z : Int, (z != z) = false from fun z => by simp)
      have HM1 := Lib.hid hm1
      have HM2 := Lib.hid hm2
      clear hg1 hg2 a1 a2 hr1 hr2 lt1 lt2 lt3 hba hna hbb hnb hnc hm1 hm2
      go_wp2_with fail
      go_region
      · obtain ⟨wf, hwf, hbut, p0, p1, p2, p3, p4, p5, q0, q1, q2, q3, q4, q5⟩ := two_storesG (o := o) (u := u) (a5 := a5) (e5 := e5) (b5 := b5) (f5 := f5) HNC.out HNB.out (Nat.ne_of_lt (Nat.lt_succ_self _))
        rw [hwf]
        have HBF := Lib.hid (below_twoG HBB.out (HSX.out) (Nat.le_succ_of_le HSX.out) hbut)
        clear hbut hwf x0 y0 x0a y0a x0b y0b z0 zz0 g0 gg0 x1 y1 x1a y1a x1b y1b z1 zz1 g1 gg1 x2 y2 x2a y2a x2b y2b z2 zz2 g2 gg2 x3 y3 x3a y3a x3b y3b z3 zz3 g3 gg3 x4 y4 x4a y4a x4b y4b z4 zz4 g4 gg4 x5 y5 x5a y5a x5b y5b z5 zz5 g5 gg5 u2 v2 u2a v2a u2b v2b hwa hwb hza m1 m2 m3 m4 m5 m6 m7 n1 n2 n3 n4 n5 n6 n7
        by_cases hk : o.kind = u.kind
        case neg =>
          have r0 := bneI_ne hk
          have HNE := Lib.hid hk
          clear hk
          go_wp2_with fail
          go_ret
          exact ⟨false, rfl, ⟨fun h => (by cases h), fun h => absurd (by rw [HXY.out h]) HNE.out⟩, HB0.out.trans (HBF.out.mono HB0.out.size)⟩
        have r0 := bneI_eq hk
        have HK0 := Lib.hid hk
        clear hk
        by_cases hk : o.a = u.a
        case neg =>
          have r1 := bneI_ne hk
          have HNE := Lib.hid hk
          clear hk
          go_wp2_with fail
          go_ret
          exact ⟨false, rfl, ⟨fun h => (by cases h), fun h => absurd (by rw [HXY.out h]) HNE.out⟩, HB0.out.trans (HBF.out.mono HB0.out.size)⟩
        have r1 := bneI_eq hk
        have HK1 := Lib.hid hk
        clear hk
        by_cases hk : o.b = u.b
        case neg =>
          have r2 := bneI_ne hk
          have HNE := Lib.hid hk
          clear hk
          go_wp2_with fail
          go_ret
          exact ⟨false, rfl, ⟨fun h => (by cases h), fun h => absurd (by rw [HXY.out h]) HNE.out⟩, HB0.out.trans (HBF.out.mono HB0.out.size)⟩
        have r2 := bneI_eq hk
        have HK2 := Lib.hid hk
        clear hk
        by_cases hk : o.c = u.c
        case neg =>
          have r3 := bneI_ne hk
          have HNE := Lib.hid hk
          clear hk
          go_wp2_with fail
          go_ret
          exact ⟨false, rfl, ⟨fun h => (by cases h), fun h => absurd (by rw [HXY.out h]) HNE.out⟩, HB0.out.trans (HBF.out.mono HB0.out.size)⟩
        have r3 := bneI_eq hk
        have HK3 := Lib.hid hk
        clear hk
        by_cases hk : o.sym = u.sym
        case neg =>
          have r5 : (o.sym.toList == u.sym.toList) = false := bytes_ne2 hk
          have HNE := Lib.hid hk
          clear hk
          go_wp2_with fail
          go_ret
          exact ⟨false, rfl, ⟨fun h => (by cases h), fun h => absurd (by rw [HXY.out h]) HNE.out⟩, HB0.out.trans (HBF.out.mono HB0.out.size)⟩
        have r5 : (o.sym.toList == u.sym.toList) = true := by rw [hk]; exact beq_self_eq_true _
        have HK4 := Lib.hid hk
        clear hk
        have HWF2 := Lib.hid (HB0.out.trans (HBF.out.mono HB0.out.size))
        have HNS := Lib.hid (sameNums_any A B o.list u.list a5 b5 e5 f5 wf (HM1.out.keep (Kp.below HWF2.out)) (HM2.out.keep (Kp.below HWF2.out)))
        go_wp2_with fail
        refine HNS.out.mono ?_
        rintro e w9 ⟨bb, rfl, hbb, hb9⟩
        have HB9 := Lib.hid (HBF.out.trans (hb9.mono HBF.out.size))
        have HBE := Lib.hid hbb
        clear hb9 hbb
        cases bb
        · go_wp2_with fail
          go_ret
          exact ⟨false, rfl, ⟨fun h => (by cases h), fun h => absurd (HBE.out.2 (by rw [HXY.out h])) (by decide)⟩, HB0.out.trans (HB9.out.mono HB0.out.size)⟩
        · have HOU := Lib.hid (Opp.ext' HK0.out HK1.out HK2.out HK3.out (HBE.out.1 rfl) HK4.out)
          go_wp2_with fail
          go_roundw
          case rel => exact ⟨j + 1, by omega, by go_num, HB9.out, fun i a b h => by
            by_cases e : i < j
            · exact HE.out i a b e
            · obtain rfl : i = j := by omega
              have h1 := HXX.out
              have h2 := HYY.out
              rw [List.getElem?_eq_getElem a] at h1
              rw [List.getElem?_eq_getElem b] at h2
              injection h1 with h1
              injection h2 with h2
              rw [h1, h2]
              exact HOU.out⟩
          case measure => simp [intOf]; omega
      · obtain ⟨wf, hwf, hbut, p0, p1, p2, p3, p4, p5, q0, q1, q2, q3, q4, q5⟩ := two_storesG (o := o) (u := u) (a5 := a5) (e5 := e5) (b5 := b5) (f5 := f5) HNB.out HNC.out (Nat.ne_of_gt (Nat.lt_succ_self _))
        rw [hwf]
        have HBF := Lib.hid (below_twoG HBB.out (Nat.le_succ_of_le HSX.out) (HSX.out) hbut)
        clear hbut hwf x0 y0 x0a y0a x0b y0b z0 zz0 g0 gg0 x1 y1 x1a y1a x1b y1b z1 zz1 g1 gg1 x2 y2 x2a y2a x2b y2b z2 zz2 g2 gg2 x3 y3 x3a y3a x3b y3b z3 zz3 g3 gg3 x4 y4 x4a y4a x4b y4b z4 zz4 g4 gg4 x5 y5 x5a y5a x5b y5b z5 zz5 g5 gg5 u2 v2 u2a v2a u2b v2b hwa hwb hza m1 m2 m3 m4 m5 m6 m7 n1 n2 n3 n4 n5 n6 n7
        by_cases hk : o.kind = u.kind
        case neg =>
          have r0 := bneI_ne hk
          have HNE := Lib.hid hk
          clear hk
          go_wp2_with fail
          go_ret
          exact ⟨false, rfl, ⟨fun h => (by cases h), fun h => absurd (by rw [HXY.out h]) HNE.out⟩, HB0.out.trans (HBF.out.mono HB0.out.size)⟩
        have r0 := bneI_eq hk
        have HK0 := Lib.hid hk
        clear hk
        by_cases hk : o.a = u.a
        case neg =>
          have r1 := bneI_ne hk
          have HNE := Lib.hid hk
          clear hk
          go_wp2_with fail
          go_ret
          exact ⟨false, rfl, ⟨fun h => (by cases h), fun h => absurd (by rw [HXY.out h]) HNE.out⟩, HB0.out.trans (HBF.out.mono HB0.out.size)⟩
        have r1 := bneI_eq hk
        have HK1 := Lib.hid hk
        clear hk
        by_cases hk : o.b = u.b
        case neg =>
          have r2 := bneI_ne hk
          have HNE := Lib.hid hk
          clear hk
          go_wp2_with fail
          go_ret
          exact ⟨false, rfl, ⟨fun h => (by cases h), fun h => absurd (by rw [HXY.out h]) HNE.out⟩, HB0.out.trans (HBF.out.mono HB0.out.size)⟩
        have r2 := bneI_eq hk
        have HK2 := Lib.hid hk
        clear hk
        by_cases hk : o.c = u.c
        case neg =>
          have r3 := bneI_ne hk
          have HNE := Lib.hid hk
          clear hk
          go_wp2_with fail
          go_ret
          exact ⟨false, rfl, ⟨fun h => (by cases h), fun h => absurd (by rw [HXY.out h]) HNE.out⟩, HB0.out.trans (HBF.out.mono HB0.out.size)⟩
        have r3 := bneI_eq hk
        have HK3 := Lib.hid hk
        clear hk
        by_cases hk : o.sym = u.sym
        case neg =>
          have r5 : (o.sym.toList == u.sym.toList) = false := bytes_ne2 hk
          have HNE := Lib.hid hk
          clear hk
          go_wp2_with fail
          go_ret
          exact ⟨false, rfl, ⟨fun h => (by cases h), fun h => absurd (by rw [HXY.out h]) HNE.out⟩, HB0.out.trans (HBF.out.mono HB0.out.size)⟩
        have r5 : (o.sym.toList == u.sym.toList) = true := by rw [hk]; exact beq_self_eq_true _
        have HK4 := Lib.hid hk
        clear hk
        have HWF2 := Lib.hid (HB0.out.trans (HBF.out.mono HB0.out.size))
        have HNS := Lib.hid (sameNums_any A B o.list u.list a5 b5 e5 f5 wf (HM1.out.keep (Kp.below HWF2.out)) (HM2.out.keep (Kp.below HWF2.out)))
        go_wp2_with fail
        refine HNS.out.mono ?_
        rintro e w9 ⟨bb, rfl, hbb, hb9⟩
        have HB9 := Lib.hid (HBF.out.trans (hb9.mono HBF.out.size))
        have HBE := Lib.hid hbb
        clear hb9 hbb
        cases bb
        · go_wp2_with fail
          go_ret
          exact ⟨false, rfl, ⟨fun h => (by cases h), fun h => absurd (HBE.out.2 (by rw [HXY.out h])) (by decide)⟩, HB0.out.trans (HB9.out.mono HB0.out.size)⟩
        · have HOU := Lib.hid (Opp.ext' HK0.out HK1.out HK2.out HK3.out (HBE.out.1 rfl) HK4.out)
          go_wp2_with fail
          go_roundw
          case rel => exact ⟨j + 1, by omega, by go_num, HB9.out, fun i a b h => by
            by_cases e : i < j
            · exact HE.out i a b e
            · obtain rfl : i = j := by omega
              have h1 := HXX.out
              have h2 := HYY.out
              rw [List.getElem?_eq_getElem a] at h1
              rw [List.getElem?_eq_getElem b] at h2
              injection h1 with h1
              injection h2 with h2
              rw [h1, h2]
              exact HOU.out⟩
          case measure => simp [intOf]; omega
    · obtain rfl : j = n := by omega
      go_wp2_with fail
      go_ret
      exact ⟨true, rfl, ⟨fun _ => Cdd.ext' HPE.out HRE.out (List.ext_getElem (by rw [← HN.out, ← HM.out]) (fun i a b => HE.out i a b (by rw [HN.out]; exact a))), fun _ => rfl⟩, HB0.out.trans (HB.out.mono HB0.out.size)⟩
end Go.Proofs.YthikdkeanndidaaDoor

/-
  LAWS for the walk of the statement that facts tell signatures and codes apart.
-/
namespace Go.Proofs.YthikdkeanndidaaDoor
open Go Go.RowKit Go.Maps
set_option linter.unusedVariables false
set_option linter.unusedSimpArgs false
set_option maxRecDepth 1000000

theorem Dr.belowG {d : Dice} {s0 B : Nat} {w w' : World} (h : Dr d s0 w w') (hB : B ≤ s0) (hD : B ≤ d.D) : Below B w w' := ⟨h.os, h.tape, h.output, h.size, fun k hk => h.block k (by omega) (by omega)⟩
theorem Rolls.belowG {w w' : World} {p : Option Addr} {n : Nat} (h : Rolls w p n) (hb : Below w.heap.size w w') : Rolls w' p n := h.keep (But.of_below (M := fun _ => False) hb) (fun _ _ _ _ q => q)
theorem CdM.opsG {A : Nat → Prop} {w : World} {p : Option Addr} {c : Nat} {x : Cdd} (h : CdM A w (.agg #[.int .i64 x.params, .int .i64 x.regs, .slice p x.ops.length c]) x) : OpsA A w (.slice p x.ops.length c) x.ops := by
  obtain ⟨p', c', e, R, h2, h3, h4, -⟩ := h
  injection e with e
  have e := congrArg Array.toList e
  simp only [List.cons.injEq, and_true, true_and] at e
  injection e with e1 _ e3
  subst e1; subst e3
  exact ⟨R, h2, h3, h4⟩
theorem IsPs.blocks {A : Nat → Prop} {w w' : World} {v : Value} {l : List Tp} (h : IsPs A w v l) (hk : ∀ b, A b → b < w.heap.size → w'.heap[b]? = w.heap[b]?) : IsPs A w' v l := by
  obtain ⟨p, c, rfl, h2⟩ := h.shape
  exact ((IsP.node (s := ⟨#[]⟩) h2).keepB hk).parts.2
/-- a signature in the cells of a box -/
structure SgP (A : Nat → Prop) (w : World) (pp np ap : Option Addr) (pc nc ac : Nat) (q : Rw) (x : Sg) : Prop where
  params : SlA encPm A w (.slice pp x.params.length pc) x.params
  names : SlA encN A w (.slice np x.names.length nc) x.names
  args : IsPs A w (.slice ap x.args.length ac) x.args
  result : IsP A w q x.result
theorem SgP.blocks {A : Nat → Prop} {w w' : World} {pp np ap : Option Addr} {pc nc ac : Nat} {q : Rw} {x : Sg} (h : SgP A w pp np ap pc nc ac q x) (hk : ∀ b, A b → b < w.heap.size → w'.heap[b]? = w.heap[b]?) : SgP A w' pp np ap pc nc ac q x :=
  ⟨h.params.blocksO hk, h.names.blocksO hk, h.args.blocks hk, h.result.keepB hk⟩
theorem SgP.mono {A B : Nat → Prop} {w : World} {pp np ap : Option Addr} {pc nc ac : Nat} {q : Rw} {x : Sg} (h : SgP A w pp np ap pc nc ac q x) (hk : ∀ b, A b → B b) : SgP B w pp np ap pc nc ac q x :=
  ⟨h.params.mono hk, h.names.mono hk, h.args.mono hk, h.result.mono hk⟩
theorem OpsA.blocks {A : Nat → Prop} {w w' : World} {v : Value} {L : List Opp} (h : OpsA A w v L) (hk : ∀ b, A b → b < w.heap.size → w'.heap[b]? = w.heap[b]?) : OpsA A w' v L := by
  obtain ⟨R, h1, h2, h3⟩ := h
  exact ⟨R, h1, h2.blocksO hk, fun r hr => (h3 r hr).blocksO hk⟩
theorem OpsA.monoA {A B : Nat → Prop} {w : World} {v : Value} {L : List Opp} (h : OpsA A w v L) (hk : ∀ b, A b → B b) : OpsA B w v L := by
  obtain ⟨R, h1, h2, h3⟩ := h
  exact ⟨R, h1, h2.mono hk, fun r hr => (h3 r hr).mono hk⟩
/-- all blocks from N on are as they were -/
def FrN (N : Nat) (w w' : World) : Prop := w.heap.size ≤ w'.heap.size ∧ ∀ b, N ≤ b → b < w.heap.size → w'.heap[b]? = w.heap[b]?
theorem FrN.trans {N : Nat} {a b c : World} (h : FrN N a b) (k : FrN N b c) : FrN N a c :=
  ⟨Nat.le_trans h.1 k.1, fun i hi hl => (k.2 i hi (Nat.lt_of_lt_of_le hl h.1)).trans (h.2 i hi hl)⟩
theorem FrN.below {N : Nat} {a b : World} (h : Below a.heap.size a b) : FrN N a b := ⟨h.size, fun i _ hl => h.block i hl⟩
theorem FrN.thrown {N : Nat} {d : Dice} {a b : World} (h : Thrown d a b) (hD : d.D < N) (hN : N ≤ a.heap.size) : FrN N a b := by
  have hd := Dr.of_thrown h (by omega)
  exact ⟨hd.size, fun i hi hl => hd.block i hl (by omega)⟩
/-- other dice are as they were -/
theorem dice_other {d e : Dice} {a b : World} (h : DiceAt e a) (ht : Thrown d a b) (hne : e.D ≠ d.D) (hp : ∀ k o, e.p = some ⟨k, o, none⟩ → k ≠ d.D) : DiceAt e b :=
  (h.still ht.but (fun k o i he q => by unfold isAt at q; injection q with q1 _ _; exact hp k o he q1) (fun i q => by unfold isAt at q; injection q with q1 _ _; exact hne q1)).1
theorem dice_on {d : Dice} {a b : World} (h : DiceAt d a) (hb : Below a.heap.size a b) : DiceAt d b := (Dr.of_below hb (dcLow h)).good h
theorem sg_st {w : World} {B : Nat} {u0 u1 u2 u3 u4 u5 u6 : Value} (h : w.heap[B]? = some (.cells #[u0, u1, u2, u3, u4, u5, u6] sgT (0, 0))) (v0 v1 v2 v3 v4 v5 v6 : Value) : (((((((w.setCell ⟨B, 0, none⟩ (v0)).setCell ⟨B, 1, none⟩ (v1)).setCell ⟨B, 2, none⟩ (v2)).setCell ⟨B, 3, none⟩ (v3)).setCell ⟨B, 4, none⟩ (v4)).setCell ⟨B, 5, none⟩ (v5)).setCell ⟨B, 6, none⟩ (v6)).heap[B]? = some (.cells #[v0, v1, v2, v3, v4, v5, v6] sgT (0, 0)) := by
  have e0 := h
  have e1 := heap_setCell_s w B 0 _ _ v0 e0
  have e2 := heap_setCell_s (w.setCell ⟨B, 0, none⟩ (v0)) B 1 _ _ v1 e1
  have e3 := heap_setCell_s ((w.setCell ⟨B, 0, none⟩ (v0)).setCell ⟨B, 1, none⟩ (v1)) B 2 _ _ v2 e2
  have e4 := heap_setCell_s (((w.setCell ⟨B, 0, none⟩ (v0)).setCell ⟨B, 1, none⟩ (v1)).setCell ⟨B, 2, none⟩ (v2)) B 3 _ _ v3 e3
  have e5 := heap_setCell_s ((((w.setCell ⟨B, 0, none⟩ (v0)).setCell ⟨B, 1, none⟩ (v1)).setCell ⟨B, 2, none⟩ (v2)).setCell ⟨B, 3, none⟩ (v3)) B 4 _ _ v4 e4
  have e6 := heap_setCell_s (((((w.setCell ⟨B, 0, none⟩ (v0)).setCell ⟨B, 1, none⟩ (v1)).setCell ⟨B, 2, none⟩ (v2)).setCell ⟨B, 3, none⟩ (v3)).setCell ⟨B, 4, none⟩ (v4)) B 5 _ _ v5 e5
  have e7 := heap_setCell_s ((((((w.setCell ⟨B, 0, none⟩ (v0)).setCell ⟨B, 1, none⟩ (v1)).setCell ⟨B, 2, none⟩ (v2)).setCell ⟨B, 3, none⟩ (v3)).setCell ⟨B, 4, none⟩ (v4)).setCell ⟨B, 5, none⟩ (v5)) B 6 _ _ v6 e6
  rw [e7]
  rfl
theorem sg_bt {w : World} {B : Nat} (v0 v1 v2 v3 v4 v5 v6 : Value) : But (fun a => a.block = B) w (((((((w.setCell ⟨B, 0, none⟩ (v0)).setCell ⟨B, 1, none⟩ (v1)).setCell ⟨B, 2, none⟩ (v2)).setCell ⟨B, 3, none⟩ (v3)).setCell ⟨B, 4, none⟩ (v4)).setCell ⟨B, 5, none⟩ (v5)).setCell ⟨B, 6, none⟩ (v6)) :=
  (((((((But.setCell (M := fun a => a.block = B) _ _ _ rfl).trans (But.setCell (M := fun a => a.block = B) _ _ _ rfl)).trans (But.setCell (M := fun a => a.block = B) _ _ _ rfl)).trans (But.setCell (M := fun a => a.block = B) _ _ _ rfl)).trans (But.setCell (M := fun a => a.block = B) _ _ _ rfl)).trans (But.setCell (M := fun a => a.block = B) _ _ _ rfl)).trans (But.setCell (M := fun a => a.block = B) _ _ _ rfl))
theorem sg_two {w : World} {B6 B7 : Nat} {u0 u1 u2 u3 u4 u5 u6 t0 t1 t2 t3 t4 t5 t6 : Value} (h6 : w.heap[B6]? = some (.cells #[u0, u1, u2, u3, u4, u5, u6] sgT (0, 0))) (h7 : w.heap[B7]? = some (.cells #[t0, t1, t2, t3, t4, t5, t6] sgT (0, 0))) (hne : B6 ≠ B7) (v0 v1 v2 v3 v4 v5 v6 x0 x1 x2 x3 x4 x5 x6 : Value) :
    ∃ wf, ((((((((((((((w.setCell ⟨B6, 0, none⟩ (v0)).setCell ⟨B6, 1, none⟩ (v1)).setCell ⟨B6, 2, none⟩ (v2)).setCell ⟨B6, 3, none⟩ (v3)).setCell ⟨B6, 4, none⟩ (v4)).setCell ⟨B6, 5, none⟩ (v5)).setCell ⟨B6, 6, none⟩ (v6)).setCell ⟨B7, 0, none⟩ (x0)).setCell ⟨B7, 1, none⟩ (x1)).setCell ⟨B7, 2, none⟩ (x2)).setCell ⟨B7, 3, none⟩ (x3)).setCell ⟨B7, 4, none⟩ (x4)).setCell ⟨B7, 5, none⟩ (x5)).setCell ⟨B7, 6, none⟩ (x6)) = wf ∧ But (fun a => a.block = B6 ∨ a.block = B7) w wf ∧ wf.heap[B6]? = some (.cells #[v0, v1, v2, v3, v4, v5, v6] sgT (0, 0)) ∧ wf.heap[B7]? = some (.cells #[x0, x1, x2, x3, x4, x5, x6] sgT (0, 0)) := by
  have k1 := sg_st h6 v0 v1 v2 v3 v4 v5 v6
  have b1 := sg_bt (w := w) (B := B6) v0 v1 v2 v3 v4 v5 v6
  generalize (((((((w.setCell ⟨B6, 0, none⟩ (v0)).setCell ⟨B6, 1, none⟩ (v1)).setCell ⟨B6, 2, none⟩ (v2)).setCell ⟨B6, 3, none⟩ (v3)).setCell ⟨B6, 4, none⟩ (v4)).setCell ⟨B6, 5, none⟩ (v5)).setCell ⟨B6, 6, none⟩ (v6)) = wm at k1 b1 ⊢
  have h7' := (b1.block B7 (World.heap_lt h7) (fun a e q => hne (by rw [← e]; exact q.symm))).trans h7
  have k2 := sg_st h7' x0 x1 x2 x3 x4 x5 x6
  have b2 := sg_bt (w := wm) (B := B7) x0 x1 x2 x3 x4 x5 x6
  exact ⟨_, rfl, (b1.mono (fun a e => .inl e)).trans (b2.mono (fun a e => .inr e)), (b2.block B6 (World.heap_lt k1) (fun a e q => hne (by rw [← e]; exact q))).trans k1, k2⟩
theorem cd_st {w : World} {B : Nat} {u0 u1 u2 : Value} (h : w.heap[B]? = some (.cells #[u0, u1, u2] cdT (0, 0))) (v0 v1 v2 : Value) : (((w.setCell ⟨B, 0, none⟩ (v0)).setCell ⟨B, 1, none⟩ (v1)).setCell ⟨B, 2, none⟩ (v2)).heap[B]? = some (.cells #[v0, v1, v2] cdT (0, 0)) := by
  have e0 := h
  have e1 := heap_setCell_s w B 0 _ _ v0 e0
  have e2 := heap_setCell_s (w.setCell ⟨B, 0, none⟩ (v0)) B 1 _ _ v1 e1
  have e3 := heap_setCell_s ((w.setCell ⟨B, 0, none⟩ (v0)).setCell ⟨B, 1, none⟩ (v1)) B 2 _ _ v2 e2
  rw [e3]
  rfl
theorem cd_bt {w : World} {B : Nat} (v0 v1 v2 : Value) : But (fun a => a.block = B) w (((w.setCell ⟨B, 0, none⟩ (v0)).setCell ⟨B, 1, none⟩ (v1)).setCell ⟨B, 2, none⟩ (v2)) :=
  (((But.setCell (M := fun a => a.block = B) _ _ _ rfl).trans (But.setCell (M := fun a => a.block = B) _ _ _ rfl)).trans (But.setCell (M := fun a => a.block = B) _ _ _ rfl))
theorem cd_two {w : World} {B6 B7 : Nat} {u0 u1 u2 t0 t1 t2 : Value} (h6 : w.heap[B6]? = some (.cells #[u0, u1, u2] cdT (0, 0))) (h7 : w.heap[B7]? = some (.cells #[t0, t1, t2] cdT (0, 0))) (hne : B6 ≠ B7) (v0 v1 v2 x0 x1 x2 : Value) :
    ∃ wf, ((((((w.setCell ⟨B6, 0, none⟩ (v0)).setCell ⟨B6, 1, none⟩ (v1)).setCell ⟨B6, 2, none⟩ (v2)).setCell ⟨B7, 0, none⟩ (x0)).setCell ⟨B7, 1, none⟩ (x1)).setCell ⟨B7, 2, none⟩ (x2)) = wf ∧ But (fun a => a.block = B6 ∨ a.block = B7) w wf ∧ wf.heap[B6]? = some (.cells #[v0, v1, v2] cdT (0, 0)) ∧ wf.heap[B7]? = some (.cells #[x0, x1, x2] cdT (0, 0)) := by
  have k1 := cd_st h6 v0 v1 v2
  have b1 := cd_bt (w := w) (B := B6) v0 v1 v2
  generalize (((w.setCell ⟨B6, 0, none⟩ (v0)).setCell ⟨B6, 1, none⟩ (v1)).setCell ⟨B6, 2, none⟩ (v2)) = wm at k1 b1 ⊢
  have h7' := (b1.block B7 (World.heap_lt h7) (fun a e q => hne (by rw [← e]; exact q.symm))).trans h7
  have k2 := cd_st h7' x0 x1 x2
  have b2 := cd_bt (w := wm) (B := B7) x0 x1 x2
  exact ⟨_, rfl, (b1.mono (fun a e => .inl e)).trans (b2.mono (fun a e => .inr e)), (b2.block B6 (World.heap_lt k1) (fun a e q => hne (by rw [← e]; exact q))).trans k1, k2⟩

/-- the contracts at what lies -/
theorem sgn_at {A : Nat → Prop} {w : World} {pp np ap : Option Addr} {pc nc ac : Nat} {q : Rw} {x : Sg} (h : SgP A w pp np ap pc nc ac q x) (hm : x.Made) (hw : LaidW w) :
    Calls Tryd.prog 18 #[.agg #[.int .i64 x.kind, .slice pp x.params.length pc, .slice np x.names.length nc, .slice ap x.args.length ac, .string q.name, .slice q.p q.n q.cap, .string x.trait]] w fun e w' => e = .returned (.string (sgS x)) ∧ Below w.heap.size w w' :=
  sgn_any A x pp np ap pc nc ac q w h.params h.names h.args h.result (by have := hm.kind; constructor <;> omega) (by have := sgS_size hm; omega) hw
theorem rsg_at {A B : Nat → Prop} {w : World} {pp np ap pp2 np2 ap2 : Option Addr} {pc nc ac pc2 nc2 ac2 : Nat} {q q2 : Rw} {x y : Sg} (h : SgP A w pp np ap pc nc ac q x) (k : SgP B w pp2 np2 ap2 pc2 nc2 ac2 q2 y) (hm : x.Made) (km : y.Made) :
    Calls Tryd.prog 19 #[.agg #[.int .i64 x.kind, .slice pp x.params.length pc, .slice np x.names.length nc, .slice ap x.args.length ac, .string q.name, .slice q.p q.n q.cap, .string x.trait], .agg #[.int .i64 y.kind, .slice pp2 y.params.length pc2, .slice np2 y.names.length nc2, .slice ap2 y.args.length ac2, .string q2.name, .slice q2.p q2.n q2.cap, .string y.trait]] w fun e w' => e = .returned (.bool ((sgS x).toList == (sgS y).toList)) ∧ Below w.heap.size w w' := by
  refine (rsg_any A B x y pp np ap pp2 np2 ap2 pc nc ac pc2 nc2 ac2 q q2 w h.params h.names h.args h.result k.params k.names k.args k.result).mono ?_
  rintro e w' ⟨b, rfl, hb, hbz⟩
  refine ⟨?_, hbz⟩
  have e1 : b = ((sgS x).toList == (sgS y).toList) := by
    by_cases hxy : x = y
    · subst hxy
      rw [hb.2 rfl]
      exact (beq_self_eq_true _).symm
    · have h1 : b = false := by cases b; rfl; exact absurd (hb.1 rfl) hxy
      rw [h1, bytes_ne2 (fun e => hxy (sgS_inj hm km e))]
  rw [e1]
theorem code_at {A : Nat → Prop} {x : Cdd} {p : Option Addr} {c : Nat} {w : World} (h : OpsA A w (.slice p x.ops.length c) x.ops) (hm : x.Small) (hw : LaidW w) :
    Calls Tryd.prog 11 #[.agg #[.int .i64 x.params, .int .i64 x.regs, .slice p x.ops.length c]] w fun e w' => e = .returned (.string (Fa.cdS x)) ∧ Below w.heap.size w w' :=
  code_any A x p c w h hm.ok (by have := hm.odd.gd.sz; omega) hw
theorem rcode_at {A B : Nat → Prop} {x y : Cdd} {p p2 : Option Addr} {c c2 : Nat} {w : World} (h : OpsA A w (.slice p x.ops.length c) x.ops) (k : OpsA B w (.slice p2 y.ops.length c2) y.ops) (hm : x.Small) (km : y.Small) :
    Calls Tryd.prog 16 #[.agg #[.int .i64 x.params, .int .i64 x.regs, .slice p x.ops.length c], .agg #[.int .i64 y.params, .int .i64 y.regs, .slice p2 y.ops.length c2]] w fun e w' => e = .returned (.bool ((Fa.cdS x).toList == (Fa.cdS y).toList)) ∧ Below w.heap.size w w' := by
  refine (sameCode_any A B x y p p2 c c2 w h k).mono ?_
  rintro e w' ⟨b, rfl, hb, hbz⟩
  refine ⟨?_, hbz⟩
  have e1 : b = ((Fa.cdS x).toList == (Fa.cdS y).toList) := by
    by_cases hxy : x = y
    · subst hxy
      rw [hb.2 rfl]
      exact (beq_self_eq_true _).symm
    · have h1 : b = false := by cases b; rfl; exact absurd (hb.1 rfl) hxy
      rw [h1, bytes_ne2 (fun e => hxy (Fa.cdS_inj hm.ok km.ok (by have := hm.odd.gd.sz; omega) e))]
  rw [e1]
end Go.Proofs.YthikdkeanndidaaDoor

/-
  THE WALK of the statement that facts tell signatures and codes apart.
-/
namespace Go.Proofs.YthikdkeanndidaaDoor
open Go Go.RowKit Go.Maps
set_option linter.unusedVariables false
set_option linter.unusedSimpArgs false
set_option maxRecDepth 1000000

theorem sg_z {w : World} {b : Nat} {c0 c1 c2 c3 c4 c5 c6 : Value} (h : w.heap[b]? = some (.cells #[c0, c1, c2, c3, c4, c5, c6] sgT (0, 0))) :
    w.cell? ⟨b, 0, none⟩ = some c0 ∧ w.cell? ⟨b, 1, none⟩ = some c1 ∧ w.cell? ⟨b, 2, none⟩ = some c2 ∧ w.cell? ⟨b, 3, none⟩ = some c3 ∧ w.cell? ⟨b, 4, none⟩ = some c4 ∧ w.cell? ⟨b, 5, none⟩ = some c5 ∧ w.cell? ⟨b, 6, none⟩ = some c6 := by
  refine ⟨?_, ?_, ?_, ?_, ?_, ?_, ?_⟩ <;> rw [Lib.cell_of_heap h] <;> rfl
theorem cd_z {w : World} {b : Nat} {c0 c1 c2 : Value} (h : w.heap[b]? = some (.cells #[c0, c1, c2] cdT (0, 0))) :
    w.cell? ⟨b, 0, none⟩ = some c0 ∧ w.cell? ⟨b, 1, none⟩ = some c1 ∧ w.cell? ⟨b, 2, none⟩ = some c2 := by
  refine ⟨?_, ?_, ?_⟩ <;> rw [Lib.cell_of_heap h] <;> rfl
set_option maxHeartbeats 8000000 in
theorem apart_walk (tp up : Option Addr) (tn tcap un ucap : Nat) (w : World) (hr : Rolls w tp tn) (htm : tn ≤ maxLen) (htb : ∀ b o, tp = some ⟨b, o, none⟩ → b < w.heap.size) (hr2 : Rolls w up un) (hum : un ≤ maxLen) (hub : ∀ b o, up = some ⟨b, o, none⟩ → b < w.heap.size) (hw : LaidW w) :
    Calls Tryd.prog 4 #[.slice tp tn tcap, .slice up un ucap] w fun e w' => e = .returned (.bool true) ∧ Below w.heap.size w w' := by
  unfold maxLen at htm hum
  have HW0 := Lib.hid hw
  have HR1 := Lib.hid hr
  have HR2 := Lib.hid hr2
  have HTB := Lib.hid htb
  have HUB := Lib.hid hub
  clear hw hr hr2 htb hub
  by_cases h4 : 400 < tn
  case pos =>
    have HLN := Lib.hid (light_no tp tn tcap w h4 (by unfold maxLen; omega))
    go_enter Tryd.func4, Tryd.ntmps4
    go_wp2_with fail
    refine HLN.out.mono ?_
    rintro e w2 ⟨rfl, rfl⟩
    go_wp2_with fail
    refine (awake10_any _ HW0.out).mono ?_
    rintro e w3 ⟨rfl, hb⟩
    have HB3 := Lib.hid hb
    clear hb
    go_wp2_with fail
    go_ret
    exact ⟨rfl, HB3.out⟩
  have HLY := Lib.hid (light_yes tp tn tcap w (by omega))
  by_cases h5 : 400 < un
  case pos =>
    have HLN := Lib.hid (light_no up un ucap w h5 (by unfold maxLen; omega))
    go_enter Tryd.func4, Tryd.ntmps4
    go_wp2_with fail
    refine HLY.out.mono ?_
    rintro e w2 ⟨rfl, rfl⟩
    go_wp2_with fail
    refine HLN.out.mono ?_
    rintro e w2 ⟨rfl, rfl⟩
    go_wp2_with fail
    refine (awake10_any _ HW0.out).mono ?_
    rintro e w3 ⟨rfl, hb⟩
    have HB3 := Lib.hid hb
    clear hb
    go_wp2_with fail
    go_ret
    exact ⟨rfl, HB3.out⟩
  have HLU := Lib.hid (light_yes up un ucap w (by omega))
  -- the two dice
  have hb1 := below_box w (.cells #[.slice tp tn tcap, .int .i64 0] 55)
  have hd1 := (rolled (cap := tcap) (by omega) HR1.out HTB.out).1
  have hro1 := roll_any tp tn tcap w
  obtain ⟨w1, hw1⟩ : ∃ z, w.alloc (.cells #[.slice tp tn tcap, .int .i64 0] 55) = z := ⟨_, rfl⟩
  have hs1 : w1.heap.size = w.heap.size + 1 := by rw [← hw1, World.size_alloc]
  rw [hw1] at hb1 hd1 hro1
  have hb2 := below_box w1 (.cells #[.slice up un ucap, .int .i64 0] 55)
  have hd2 := (rolled (cap := ucap) (by omega) (HR2.out.belowG hb1) (fun b o e => by have := HUB.out b o e; omega)).1
  have hro2 := roll_any up un ucap w1
  obtain ⟨w2, hw2⟩ : ∃ z, w1.alloc (.cells #[.slice up un ucap, .int .i64 0] 55) = z := ⟨_, rfl⟩
  have hs2 : w2.heap.size = w1.heap.size + 1 := by rw [← hw2, World.size_alloc]
  rw [hw2] at hb2 hd2 hro2
  obtain ⟨d, hd⟩ : ∃ d : Dice, d = ⟨w.heap.size, tp, tn, tcap⟩ := ⟨_, rfl⟩
  obtain ⟨e, he⟩ : ∃ e : Dice, e = ⟨w1.heap.size, up, un, ucap⟩ := ⟨_, rfl⟩
  have hdD : d.D = w.heap.size := by rw [hd]
  have heD : e.D = w1.heap.size := by rw [he]
  have HDP : Hid (∀ k o, d.p = some ⟨k, o, none⟩ → k < w.heap.size) := by rw [hd]; exact HTB.out
  have HEP : Hid (∀ k o, e.p = some ⟨k, o, none⟩ → k < w.heap.size) := by rw [he]; exact HUB.out
  rw [← hd] at hd1
  rw [← he] at hd2
  rw [← hdD] at hro1
  rw [← heD] at hro2
  have HD2 := Lib.hid (dice_on hd1 hb2)
  have HE2 := Lib.hid hd2
  have HLOW : Hid (w.heap.size ≤ d.D ∧ d.D < e.D ∧ e.D < w2.heap.size) := ⟨by omega, by omega, by omega⟩
  have HB2 := Lib.hid (bnext hb1 hb2)
  have HRO1 := Lib.hid hro1
  have HRO2 := Lib.hid hro2
  clear hb1 hd1 hro1 hs1 hb2 hd2 hro2 hs2 hd he hdD heD hw2 hw1 HR1 HR2 HTB HUB
  go_enter Tryd.func4, Tryd.ntmps4
  go_wp2_with fail
  refine HLY.out.mono ?_
  rintro e2 w2' ⟨rfl, hq⟩
  replace hq := hq.symm
  subst hq
  go_wp2_with fail
  refine HLU.out.mono ?_
  rintro e2 w2' ⟨rfl, hq⟩
  replace hq := hq.symm
  subst hq
  go_wp2_with fail
  refine HRO1.out.mono ?_
  rintro e2 w2' ⟨rfl, hq⟩
  replace hq := hq.symm
  subst hq
  go_wp2_with fail
  refine HRO2.out.mono ?_
  rintro e2 w2' ⟨rfl, hq⟩
  replace hq := hq.symm
  subst hq
  clear HLY HLU HRO1 HRO2
  go_wp2_with fail
  -- the two signatures
  refine (signature_any d _ HD2.out).mono ?_
  rintro e2 w3 ⟨vx, x, rfl, ⟨pp1, np1, ap1, pc1, nc1, ac1, q1, rfl, hx2, hx3, hx4, hx5⟩, hxm, ht⟩
  have HN : Hid (∃ N, N = w2.heap.size) := ⟨_, rfl⟩
  obtain ⟨N, hN⟩ := HN.out
  clear HN
  have hbw := (Dr.of_thrown ht (by have := HLOW.out; omega)).belowG (B := w.heap.size) HB2.out.size (by have := HLOW.out; omega)
  have hfr : FrN N w2 w3 := FrN.thrown ht (by have := HLOW.out; omega) (by omega)
  have HB3 := Lib.hid (HB2.out.trans hbw)
  have HX3 := Lib.hid ((SgP.mk hx2 hx3 hx4 hx5).mono (B := fun k => N ≤ k) (fun k hk => by have := hk.2; omega))
  have HXM := Lib.hid hxm
  have HD3 := Lib.hid ht.good
  have HE3 := Lib.hid (dice_other HE2.out ht (by have := HLOW.out; omega) (fun k o hk => by have := HEP.out k o hk; have := HLOW.out; omega))
  have HN3 : Hid (N ≤ w3.heap.size) := by have := hfr.1; show N ≤ _; omega
  have HLN : Hid (w.heap.size ≤ d.D ∧ d.D < e.D ∧ e.D < N) := by rw [hN]; exact HLOW.out
  clear hx2 hx3 hx4 hx5 hxm ht hbw hfr hN HLOW HB2 HD2 HE2
  go_wp2_with fail
  refine (signature_any e _ HE3.out).mono ?_
  rintro e2 w4 ⟨vy, y, rfl, ⟨pp2, np2, ap2, pc2, nc2, ac2, q2, rfl, hx2, hx3, hx4, hx5⟩, hxm, ht⟩
  have hbw := (Dr.of_thrown ht (by have := HLN.out; have := HN3.out; omega)).belowG (B := w.heap.size) HB3.out.size (by have := HLN.out; omega)
  have hfr : FrN N w3 w4 := FrN.thrown ht (by have := HLN.out; omega) HN3.out
  have HB4 := Lib.hid (HB3.out.trans hbw)
  have HX4 := Lib.hid (HX3.out.blocks hfr.2)
  have HY4 := Lib.hid ((SgP.mk hx2 hx3 hx4 hx5).mono (B := fun k => N ≤ k) (fun k hk => by have := hk.2; have := HN3.out; omega))
  have HYM := Lib.hid hxm
  have HE4 := Lib.hid ht.good
  have HD4 := Lib.hid (dice_other HD3.out ht (by have := HLN.out; omega) (fun k o hk => by have := HDP.out k o hk; have := HLN.out; omega))
  have HN4 : Hid (N ≤ w4.heap.size) := by have := hfr.1; have := HN3.out; show N ≤ _; omega
  clear hx2 hx3 hx4 hx5 hxm ht hbw hfr HB3 HX3 HD3 HE3 HN3
  -- their boxes
  obtain ⟨wa, hwa⟩ : ∃ z, w4.alloc (.cells #[.int .i64 0, .slice none 0 0, .slice none 0 0, .slice none 0 0, .string ⟨#[]⟩, .slice none 0 0, .string ⟨#[]⟩] sgT) = z := ⟨_, rfl⟩
  have hba := below_box w4 (.cells #[.int .i64 0, .slice none 0 0, .slice none 0 0, .slice none 0 0, .string ⟨#[]⟩, .slice none 0 0, .string ⟨#[]⟩] sgT)
  have hna : (w4.alloc (.cells #[.int .i64 0, .slice none 0 0, .slice none 0 0, .slice none 0 0, .string ⟨#[]⟩, .slice none 0 0, .string ⟨#[]⟩] sgT)).heap[w4.heap.size]? = some (.cells #[.int .i64 0, .slice none 0 0, .slice none 0 0, .slice none 0 0, .string ⟨#[]⟩, .slice none 0 0, .string ⟨#[]⟩] sgT) := heap_alloc_new w4 _
  have hza : (w4.alloc (.cells #[.int .i64 0, .slice none 0 0, .slice none 0 0, .slice none 0 0, .string ⟨#[]⟩, .slice none 0 0, .string ⟨#[]⟩] sgT)).heap.size = w4.heap.size + 1 := World.size_alloc _ _
  rw [hwa] at hba hna hza
  obtain ⟨wb, hwb⟩ : ∃ z, wa.alloc (.cells #[.int .i64 0, .slice none 0 0, .slice none 0 0, .slice none 0 0, .string ⟨#[]⟩, .slice none 0 0, .string ⟨#[]⟩] sgT) = z := ⟨_, rfl⟩
  have hbb := below_box wa (.cells #[.int .i64 0, .slice none 0 0, .slice none 0 0, .slice none 0 0, .string ⟨#[]⟩, .slice none 0 0, .string ⟨#[]⟩] sgT)
  have hnb : (wa.alloc (.cells #[.int .i64 0, .slice none 0 0, .slice none 0 0, .slice none 0 0, .string ⟨#[]⟩, .slice none 0 0, .string ⟨#[]⟩] sgT)).heap[wa.heap.size]? = some (.cells #[.int .i64 0, .slice none 0 0, .slice none 0 0, .slice none 0 0, .string ⟨#[]⟩, .slice none 0 0, .string ⟨#[]⟩] sgT) := heap_alloc_new wa _
  rw [hwb] at hbb hnb
  rw [hza] at hnb
  have hnc : wb.heap[w4.heap.size]? = some (.cells #[.int .i64 0, .slice none 0 0, .slice none 0 0, .slice none 0 0, .string ⟨#[]⟩, .slice none 0 0, .string ⟨#[]⟩] sgT) := (hbb.block _ (by omega)).trans hna
  obtain ⟨z0, z1, z2, z3, z4, z5, z6⟩ := sg_z hnc
  obtain ⟨zz0, zz1, zz2, zz3, zz4, zz5, zz6⟩ := sg_z hnb
  have g0 : wb.frozen? ⟨w4.heap.size, 0, none⟩ = false := Lib.frozen_of_heap hnc 0
  have gg0 : wb.frozen? ⟨w4.heap.size + 1, 0, none⟩ = false := Lib.frozen_of_heap hnb 0
  have g1 : wb.frozen? ⟨w4.heap.size, 1, none⟩ = false := Lib.frozen_of_heap hnc 1
  have gg1 : wb.frozen? ⟨w4.heap.size + 1, 1, none⟩ = false := Lib.frozen_of_heap hnb 1
  have g2 : wb.frozen? ⟨w4.heap.size, 2, none⟩ = false := Lib.frozen_of_heap hnc 2
  have gg2 : wb.frozen? ⟨w4.heap.size + 1, 2, none⟩ = false := Lib.frozen_of_heap hnb 2
  have g3 : wb.frozen? ⟨w4.heap.size, 3, none⟩ = false := Lib.frozen_of_heap hnc 3
  have gg3 : wb.frozen? ⟨w4.heap.size + 1, 3, none⟩ = false := Lib.frozen_of_heap hnb 3
  have g4 : wb.frozen? ⟨w4.heap.size, 4, none⟩ = false := Lib.frozen_of_heap hnc 4
  have gg4 : wb.frozen? ⟨w4.heap.size + 1, 4, none⟩ = false := Lib.frozen_of_heap hnb 4
  have g5 : wb.frozen? ⟨w4.heap.size, 5, none⟩ = false := Lib.frozen_of_heap hnc 5
  have gg5 : wb.frozen? ⟨w4.heap.size + 1, 5, none⟩ = false := Lib.frozen_of_heap hnb 5
  have g6 : wb.frozen? ⟨w4.heap.size, 6, none⟩ = false := Lib.frozen_of_heap hnc 6
  have gg6 : wb.frozen? ⟨w4.heap.size + 1, 6, none⟩ = false := Lib.frozen_of_heap hnb 6
  obtain ⟨wf, hwf, hbut, hf6, hf7⟩ := sg_two hnc hnb (Nat.ne_of_lt (Nat.lt_succ_self _)) (.int .i64 x.kind) (.slice pp1 x.params.length pc1) (.slice np1 x.names.length nc1) (.slice ap1 x.args.length ac1) (.string q1.name) (.slice q1.p q1.n q1.cap) (.string x.trait) (.int .i64 y.kind) (.slice pp2 y.params.length pc2) (.slice np2 y.names.length nc2) (.slice ap2 y.args.length ac2) (.string q2.name) (.slice q2.p q2.n q2.cap) (.string y.trait)
  have hbf : Below w4.heap.size w4 wf := (bnext hba hbb).trans (But.below hbut (bnext hba hbb).size (fun a e => by rcases e with e | e <;> omega))
  have m1 : ¬ w4.heap.size = w4.heap.size + 1 := by omega
  have m2 : ¬ w4.heap.size + 1 = w4.heap.size := by omega
  obtain ⟨B6, hB6⟩ : ∃ B, B = w4.heap.size := ⟨_, rfl⟩
  have HBF := Lib.hid hbf
  have HF6 := Lib.hid hf6
  have HF7 := Lib.hid hf7
  clear hba hna hbb hnb hnc hbut hf6 hf7 hbf hB6
  go_wp2_with fail
  clear z0 zz0 g0 gg0 z1 zz1 g1 gg1 z2 zz2 g2 gg2 z3 zz3 g3 gg3 z4 zz4 g4 gg4 z5 zz5 g5 gg5 z6 zz6 g6 gg6 hwa hwb hza hwf m1 m2
  -- the two codes
  have HN5 : Hid (N ≤ wf.heap.size) := by have := HBF.out.size; have := HN4.out; show N ≤ _; omega
  have HFR5 : Hid (FrN N w4 wf) := FrN.below HBF.out
  have HB5 := Lib.hid (HB4.out.trans (HBF.out.mono HB4.out.size))
  have HX5 := Lib.hid (HX4.out.blocks HFR5.out.2)
  have HY5 := Lib.hid (HY4.out.blocks HFR5.out.2)
  have HD5 := Lib.hid (dice_on HD4.out HBF.out)
  have HE5 := Lib.hid (dice_on HE4.out HBF.out)
  have HNB : Hid (N ≤ w4.heap.size) := HN4
  clear HB4 HX4 HY4 HD4 HE4 HBF HFR5 HN4
  refine (dcode_any d 1 _ HD5.out (by omega)).mono ?_
  rintro e2 w6 ⟨vm, m, rfl, hcm, hsm, ht⟩
  have hcp := hcm
  obtain ⟨p3, c3, rfl, -⟩ := hcp
  have hbw := (Dr.of_thrown ht (by have := HLN.out; have := HN5.out; omega)).belowG (B := w.heap.size) HB5.out.size (by have := HLN.out; omega)
  have hfr : FrN N wf w6 := FrN.thrown ht (by have := HLN.out; omega) HN5.out
  have HB6 := Lib.hid (HB5.out.trans hbw)
  have HX6 := Lib.hid (HX5.out.blocks hfr.2)
  have HY6 := Lib.hid (HY5.out.blocks hfr.2)
  have HG6 := Lib.hid ((hfr.2 _ HNB.out (heap_lt HF6.out)).trans HF6.out)
  have HG7 := Lib.hid ((hfr.2 _ (Nat.le_succ_of_le HNB.out) (heap_lt HF7.out)).trans HF7.out)
  have HM6 := Lib.hid (hcm.opsG.monoA (B := fun k => N ≤ k) (fun k hk => Nat.le_trans HN5.out hk))
  have HMM := Lib.hid hsm
  have HE6 := Lib.hid (dice_other HE5.out ht (by have := HLN.out; omega) (fun k o hk => by have := HEP.out k o hk; have := HLN.out; omega))
  have HN6 : Hid (N ≤ w6.heap.size) := by have := hfr.1; have := HN5.out; show N ≤ _; omega
  clear hcm hsm ht hbw hfr HB5 HX5 HY5 HF6 HF7 HD5 HE5 HN5
  go_wp2_with fail
  refine (dcode_any e 1 _ HE6.out (by omega)).mono ?_
  rintro e2 w7 ⟨vm, n, rfl, hcm, hsm, ht⟩
  have hcp := hcm
  obtain ⟨p4, c4, rfl, -⟩ := hcp
  have hbw := (Dr.of_thrown ht (by have := HLN.out; have := HN6.out; omega)).belowG (B := w.heap.size) HB6.out.size (by have := HLN.out; omega)
  have hfr : FrN N w6 w7 := FrN.thrown ht (by have := HLN.out; omega) HN6.out
  have HB7 := Lib.hid (HB6.out.trans hbw)
  have HX7 := Lib.hid (HX6.out.blocks hfr.2)
  have HY7 := Lib.hid (HY6.out.blocks hfr.2)
  have HH6 := Lib.hid ((hfr.2 _ HNB.out (heap_lt HG6.out)).trans HG6.out)
  have HH7 := Lib.hid ((hfr.2 _ (Nat.le_succ_of_le HNB.out) (heap_lt HG7.out)).trans HG7.out)
  have HM7 := Lib.hid (HM6.out.blocks hfr.2)
  have HO7 := Lib.hid (hcm.opsG.monoA (B := fun k => N ≤ k) (fun k hk => Nat.le_trans HN6.out hk))
  have HNM := Lib.hid hsm
  clear hcm hsm ht hbw hfr HB6 HX6 HY6 HG6 HG7 HM6 HE6 HN6
  obtain ⟨wa, hwa⟩ : ∃ z, w7.alloc (.cells #[.int .i64 0, .int .i64 0, .slice none 0 0] cdT) = z := ⟨_, rfl⟩
  have hba := below_box w7 (.cells #[.int .i64 0, .int .i64 0, .slice none 0 0] cdT)
  have hna : (w7.alloc (.cells #[.int .i64 0, .int .i64 0, .slice none 0 0] cdT)).heap[w7.heap.size]? = some (.cells #[.int .i64 0, .int .i64 0, .slice none 0 0] cdT) := heap_alloc_new w7 _
  have hza : (w7.alloc (.cells #[.int .i64 0, .int .i64 0, .slice none 0 0] cdT)).heap.size = w7.heap.size + 1 := World.size_alloc _ _
  rw [hwa] at hba hna hza
  obtain ⟨wb, hwb⟩ : ∃ z, wa.alloc (.cells #[.int .i64 0, .int .i64 0, .slice none 0 0] cdT) = z := ⟨_, rfl⟩
  have hbb := below_box wa (.cells #[.int .i64 0, .int .i64 0, .slice none 0 0] cdT)
  have hnb : (wa.alloc (.cells #[.int .i64 0, .int .i64 0, .slice none 0 0] cdT)).heap[wa.heap.size]? = some (.cells #[.int .i64 0, .int .i64 0, .slice none 0 0] cdT) := heap_alloc_new wa _
  rw [hwb] at hbb hnb
  rw [hza] at hnb
  have hnc : wb.heap[w7.heap.size]? = some (.cells #[.int .i64 0, .int .i64 0, .slice none 0 0] cdT) := (hbb.block _ (by omega)).trans hna
  obtain ⟨z0, z1, z2⟩ := cd_z hnc
  obtain ⟨zz0, zz1, zz2⟩ := cd_z hnb
  have g0 : wb.frozen? ⟨w7.heap.size, 0, none⟩ = false := Lib.frozen_of_heap hnc 0
  have gg0 : wb.frozen? ⟨w7.heap.size + 1, 0, none⟩ = false := Lib.frozen_of_heap hnb 0
  have g1 : wb.frozen? ⟨w7.heap.size, 1, none⟩ = false := Lib.frozen_of_heap hnc 1
  have gg1 : wb.frozen? ⟨w7.heap.size + 1, 1, none⟩ = false := Lib.frozen_of_heap hnb 1
  have g2 : wb.frozen? ⟨w7.heap.size, 2, none⟩ = false := Lib.frozen_of_heap hnc 2
  have gg2 : wb.frozen? ⟨w7.heap.size + 1, 2, none⟩ = false := Lib.frozen_of_heap hnb 2
  obtain ⟨wg, hwg, hbut, hf8, hf9⟩ := cd_two hnc hnb (Nat.ne_of_lt (Nat.lt_succ_self _)) (.int .i64 m.params) (.int .i64 m.regs) (.slice p3 m.ops.length c3) (.int .i64 n.params) (.int .i64 n.regs) (.slice p4 n.ops.length c4)
  have hbf : Below w7.heap.size w7 wg := (bnext hba hbb).trans (But.below hbut (bnext hba hbb).size (fun a e => by rcases e with e | e <;> omega))
  have hbd : Below w7.heap.size w7 wg.drew := hbf.trans ((Below.refl _ wg).drew)
  have m1 : ¬ w7.heap.size = w7.heap.size + 1 := by omega
  have m2 : ¬ w7.heap.size + 1 = w7.heap.size := by omega
  have HBD := Lib.hid (HB7.out.trans (hbd.mono HB7.out.size))
  have HK6 := Lib.hid ((hbd.block _ (heap_lt HH6.out)).trans HH6.out)
  have HK7 : Hid (wg.drew.heap[w4.heap.size + 1]? = _) := (hbd.block _ (heap_lt HH7.out)).trans HH7.out
  have HK8 : Hid (wg.drew.heap[w7.heap.size]? = _) := hf8
  have HK9 : Hid (wg.drew.heap[w7.heap.size + 1]? = _) := hf9
  have HXD := Lib.hid (HX7.out.blocks (FrN.below hbd).2)
  have HYD := Lib.hid (HY7.out.blocks (FrN.below hbd).2)
  have HMD := Lib.hid (HM7.out.blocks (FrN.below hbd).2)
  have HOD := Lib.hid (HO7.out.blocks (FrN.below hbd).2)
  have HWD := Lib.hid (HW0.out.below HBD.out)
  clear hba hna hbb hnb hnc hbut hf8 hf9 hbf hbd HB7 HH6 HH7 HX7 HY7 HM7 HO7
  go_wp2_with fail
  clear z0 zz0 g0 gg0 z1 zz1 g1 gg1 z2 zz2 g2 gg2 hwa hwb hza m1 m2
  obtain ⟨s1, hs1⟩ : ∃ s, s = sgS x := ⟨_, rfl⟩
  obtain ⟨s2, hs2⟩ : ∃ s, s = sgS y := ⟨_, rfl⟩
  obtain ⟨s3, hs3⟩ : ∃ s, s = Fa.cdS m := ⟨_, rfl⟩
  obtain ⟨s4, hs4⟩ : ∃ s, s = Fa.cdS n := ⟨_, rfl⟩
  obtain ⟨b1, hb1⟩ : ∃ b, (s1.toList == s2.toList) = b := ⟨_, rfl⟩
  obtain ⟨b2, hb2⟩ : ∃ b, (s3.toList == s4.toList) = b := ⟨_, rfl⟩
  have HL6 := Lib.hid (fun (W : World) (hl : LeW wg.drew W) => sg_z ((hl.block _ (heap_lt HK6.out)).trans HK6.out))
  have HL7 := Lib.hid (fun (W : World) (hl : LeW wg.drew W) => sg_z ((hl.block _ (heap_lt HK7.out)).trans HK7.out))
  have HL8 := Lib.hid (fun (W : World) (hl : LeW wg.drew W) => cd_z ((hl.block _ (heap_lt HK8.out)).trans HK8.out))
  have HL9 := Lib.hid (fun (W : World) (hl : LeW wg.drew W) => cd_z ((hl.block _ (heap_lt HK9.out)).trans HK9.out))
  have HS1 := Lib.hid (fun (W : World) (hl : LeW wg.drew W) => sgn_at (HXD.out.blocks (FrN.below hl).2) HXM.out (HWD.out.below hl))
  have HS2 := Lib.hid (fun (W : World) (hl : LeW wg.drew W) => sgn_at (HYD.out.blocks (FrN.below hl).2) HYM.out (HWD.out.below hl))
  have HS3 := Lib.hid (fun (W : World) (hl : LeW wg.drew W) => rsg_at (HXD.out.blocks (FrN.below hl).2) (HYD.out.blocks (FrN.below hl).2) HXM.out HYM.out)
  have HC1 := Lib.hid (fun (W : World) (hl : LeW wg.drew W) => code_at (HMD.out.blocks (FrN.below hl).2) HMM.out (HWD.out.below hl))
  have HC2 := Lib.hid (fun (W : World) (hl : LeW wg.drew W) => code_at (HOD.out.blocks (FrN.below hl).2) HNM.out (HWD.out.below hl))
  have HC3 := Lib.hid (fun (W : World) (hl : LeW wg.drew W) => rcode_at (HMD.out.blocks (FrN.below hl).2) (HOD.out.blocks (FrN.below hl).2) HMM.out HNM.out)
  have HAW := Lib.hid (fun (W : World) (hl : LeW wg.drew W) => awake10_any W (HWD.out.below hl))
  rw [← hs1] at HS1 HS3
  rw [← hs2] at HS2 HS3
  rw [hb1] at HS3
  rw [← hs3] at HC1 HC3
  rw [← hs4] at HC2 HC3
  rw [hb2] at HC3
  have hq1 : (b1 == b1) = true := by simp
  have hq2 : (b2 == b2) = true := by simp
  clear hs1 hs2 hs3 hs4 hwg HK6 HK7 HK8 HK9 HXD HYD HMD HOD HWD
  apply wp_region_relT LeW.refl LeW.trans 23
  case hm => kernel_rfl
  case hB => kernel_rfl
  simp only [List.take_succ_cons, List.take_zero, List.drop_succ_cons, List.drop_zero]
  apply wpRel_cons (t := tyIs _ (.bool true))
  case h1 => (intro W hl hd2; have hc := HAW.out W hl; clear hl hd2; unfold relAt; go_simp; refine ⟨LeW.refl _, ?_⟩; refine hc.mono ?_; rintro e w'' ⟨rfl, hb''⟩; exact ⟨(), rfl, hb'', trivial⟩)
  intro _
  rw [tyIs_f]
  go_simp
  apply wpRel_cons (t := tyIs _ _)
  case h1 => (intro W hl hd2; clear hl hd2; unfold relAt; go_simp; exact rel_is LeW.refl)
  intro _
  rw [tyIs_f]
  go_simp
  apply wpRel_cons (t := tyIs _ _)
  case h1 => (intro W hl hd2; obtain ⟨x0, x1, x2, x3, x4, x5, x6⟩ := HL6.out W hl; clear hl hd2; unfold relAt; go_simp; exact rel_is LeW.refl)
  intro _
  rw [tyIs_f]
  go_simp
  apply wpRel_cons (t := tyIs _ (.string s1))
  case h1 => (intro W hl hd2; have hc := HS1.out W hl; clear hl hd2; unfold relAt; go_simp; refine ⟨LeW.refl _, ?_⟩; refine hc.mono ?_; rintro e w'' ⟨rfl, hb''⟩; exact ⟨(), rfl, hb'', trivial⟩)
  intro _
  rw [tyIs_f]
  go_simp
  apply wpRel_cons (t := tyIs _ _)
  case h1 => (intro W hl hd2; obtain ⟨x0, x1, x2, x3, x4, x5, x6⟩ := HL7.out W hl; clear hl hd2; unfold relAt; go_simp; exact rel_is LeW.refl)
  intro _
  rw [tyIs_f]
  go_simp
  apply wpRel_cons (t := tyIs _ (.string s2))
  case h1 => (intro W hl hd2; have hc := HS2.out W hl; clear hl hd2; unfold relAt; go_simp; refine ⟨LeW.refl _, ?_⟩; refine hc.mono ?_; rintro e w'' ⟨rfl, hb''⟩; exact ⟨(), rfl, hb'', trivial⟩)
  intro _
  rw [tyIs_f]
  go_simp
  apply wpRel_cons (t := tyIs _ _)
  case h1 => (intro W hl hd2; clear hl hd2; unfold relAt; go_simp; exact rel_is LeW.refl)
  intro _
  rw [tyIs_f]
  go_simp
  apply wpRel_cons (t := tyIs _ _)
  case h1 => (intro W hl hd2; obtain ⟨x0, x1, x2, x3, x4, x5, x6⟩ := HL6.out W hl; clear hl hd2; unfold relAt; go_simp; exact rel_is LeW.refl)
  intro _
  rw [tyIs_f]
  go_simp
  apply wpRel_cons (t := tyIs _ _)
  case h1 => (intro W hl hd2; obtain ⟨x0, x1, x2, x3, x4, x5, x6⟩ := HL7.out W hl; clear hl hd2; unfold relAt; go_simp; exact rel_is LeW.refl)
  intro _
  rw [tyIs_f]
  go_simp
  apply wpRel_cons (t := tyIs _ (.bool b1))
  case h1 => (intro W hl hd2; have hc := HS3.out W hl; clear hl hd2; unfold relAt; go_simp; refine ⟨LeW.refl _, ?_⟩; refine hc.mono ?_; rintro e w'' ⟨rfl, hb''⟩; exact ⟨(), rfl, hb'', trivial⟩)
  intro _
  rw [tyIs_f]
  go_simp
  apply wpRel_cons (t := tyIs _ _)
  case h1 => (intro W hl hd2; clear hl hd2; unfold relAt; go_simp; exact rel_is LeW.refl)
  intro _
  rw [tyIs_f]
  go_simp
  apply wpRel_cons (t := tyIs _ _)
  case h1 => (intro W hl hd2; clear hl hd2; unfold relAt; go_simp; exact rel_is LeW.refl)
  intro _
  rw [tyIs_f]
  go_simp
  apply wpRel_cons (t := tyIs _ _)
  case h1 => (intro W hl hd2; clear hl hd2; unfold relAt; go_simp; exact rel_is LeW.refl)
  intro _
  rw [tyIs_f]
  go_simp
  apply wpRel_cons (t := tyIs _ _)
  case h1 => (intro W hl hd2; obtain ⟨x0, x1, x2⟩ := HL8.out W hl; clear hl hd2; unfold relAt; go_simp; exact rel_is LeW.refl)
  intro _
  rw [tyIs_f]
  go_simp
  apply wpRel_cons (t := tyIs _ (.string s3))
  case h1 => (intro W hl hd2; have hc := HC1.out W hl; clear hl hd2; unfold relAt; go_simp; refine ⟨LeW.refl _, ?_⟩; refine hc.mono ?_; rintro e w'' ⟨rfl, hb''⟩; exact ⟨(), rfl, hb'', trivial⟩)
  intro _
  rw [tyIs_f]
  go_simp
  apply wpRel_cons (t := tyIs _ _)
  case h1 => (intro W hl hd2; obtain ⟨x0, x1, x2⟩ := HL9.out W hl; clear hl hd2; unfold relAt; go_simp; exact rel_is LeW.refl)
  intro _
  rw [tyIs_f]
  go_simp
  apply wpRel_cons (t := tyIs _ (.string s4))
  case h1 => (intro W hl hd2; have hc := HC2.out W hl; clear hl hd2; unfold relAt; go_simp; refine ⟨LeW.refl _, ?_⟩; refine hc.mono ?_; rintro e w'' ⟨rfl, hb''⟩; exact ⟨(), rfl, hb'', trivial⟩)
  intro _
  rw [tyIs_f]
  go_simp
  apply wpRel_cons (t := tyIs _ _)
  case h1 => (intro W hl hd2; clear hl hd2; unfold relAt; go_simp; exact rel_is LeW.refl)
  intro _
  rw [tyIs_f]
  go_simp
  apply wpRel_cons (t := tyIs _ _)
  case h1 => (intro W hl hd2; obtain ⟨x0, x1, x2⟩ := HL8.out W hl; clear hl hd2; unfold relAt; go_simp; exact rel_is LeW.refl)
  intro _
  rw [tyIs_f]
  go_simp
  apply wpRel_cons (t := tyIs _ _)
  case h1 => (intro W hl hd2; obtain ⟨x0, x1, x2⟩ := HL9.out W hl; clear hl hd2; unfold relAt; go_simp; exact rel_is LeW.refl)
  intro _
  rw [tyIs_f]
  go_simp
  apply wpRel_cons (t := tyIs _ (.bool b2))
  case h1 => (intro W hl hd2; have hc := HC3.out W hl; clear hl hd2; unfold relAt; go_simp; refine ⟨LeW.refl _, ?_⟩; refine hc.mono ?_; rintro e w'' ⟨rfl, hb''⟩; exact ⟨(), rfl, hb'', trivial⟩)
  intro _
  rw [tyIs_f]
  go_simp
  apply wpRel_cons (t := tyIs _ _)
  case h1 => (intro W hl hd2; clear hl hd2; unfold relAt; go_simp; exact rel_is LeW.refl)
  intro _
  rw [tyIs_f]
  go_simp
  apply wpRel_cons (t := tyIs _ _)
  case h1 => (intro W hl hd2; clear hl hd2; unfold relAt; go_simp; exact rel_is LeW.refl)
  intro _
  rw [tyIs_f]
  go_simp
  apply wpRel_nil (Ts := [])
  intro wq hl hF
  have HBZ := Lib.hid (HBD.out.trans (hl.mono HBD.out.size))
  clear hl hF
  go_wp2_with fail
  go_ret
  exact ⟨rfl, HBZ.out⟩
end Go.Proofs.YthikdkeanndidaaDoor
