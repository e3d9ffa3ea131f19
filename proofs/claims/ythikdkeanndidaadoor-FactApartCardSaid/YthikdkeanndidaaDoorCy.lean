/-
  CONTRACT: (*Dice).OddCode: a code that one thing is changed of.
-/
import Derived.Test.YthikdkeanndidaaDoorCx
namespace Go.Proofs.YthikdkeanndidaaDoor
open Go Go.RowKit Go.Maps
set_option linter.unusedVariables false
set_option linter.unusedSimpArgs false
set_option maxRecDepth 1000000

theorem Od.begin {d : Dice} {w w2 w3 : World} {pr rg : Int} {g cap : Nat} {v0 : Value} {R : List Rop} {A : Nat → Prop} (hd : DiceAt d w) (hw2 : (w.alloc (.cells #[.int .i64 pr, .int .i64 rg, v0] cdT)).alloc (.cells #[.int .i64 0, .int .i64 0, .slice none 0 0] cdT) = w2) (hb : Below w2.heap.size w2 w3)
    (ho : OwnL encOp opT w3 w2.heap.size (.slice (some ⟨g, 0, none⟩) R.length cap) R) (hl : ∀ r ∈ R, SlA encI A w r.sl r.1.list) (hA : ∀ k, A k → k ≠ d.D) (hp : InI pr) (hr : InI rg) (hn : R.length ≤ 15) (hok : ∀ r ∈ R, r.1.Odd) :
    w3.cell? ⟨w.heap.size, 2, none⟩ = some v0 ∧ w3.frozen? ⟨w.heap.size, 2, none⟩ = false ∧ Od d w (w3.setCell ⟨w.heap.size, 2, none⟩ (.slice (some ⟨g, 0, none⟩) R.length cap)) w.heap.size pr rg g R.length cap R := by
  have hlow := dcLow hd
  have hs1 : (w.alloc (.cells #[.int .i64 pr, .int .i64 rg, v0] cdT)).heap.size = w.heap.size + 1 := World.size_alloc _ _
  have hs2 : w2.heap.size = w.heap.size + 2 := by rw [← hw2, World.size_alloc, hs1]
  have hb1 := below_box w (.cells #[.int .i64 pr, .int .i64 rg, v0] cdT)
  have hb2 := below_box (w.alloc (.cells #[.int .i64 pr, .int .i64 rg, v0] cdT)) (.cells #[.int .i64 0, .int .i64 0, .slice none 0 0] cdT)
  have hn1 : w2.heap[w.heap.size]? = some (.cells #[.int .i64 pr, .int .i64 rg, v0] cdT (0, 0)) := by
    rw [← hw2, hb2.block w.heap.size (by omega)]
    exact heap_alloc_new w _
  have hn2 : w2.heap[w.heap.size + 1]? = some (.cells #[.int .i64 0, .int .i64 0, .slice none 0 0] cdT (0, 0)) := by
    rw [← hw2, ← hs1]
    exact heap_alloc_new _ _
  rw [hw2] at hb2
  have hB2 : Below w.heap.size w w2 := hb1.trans (hb2.mono (by omega))
  have hB3 : Below w.heap.size w w3 := hB2.trans (hb.mono (by omega))
  have hn3 : w3.heap[w.heap.size]? = some (.cells #[.int .i64 pr, .int .i64 rg, v0] cdT (0, 0)) := (hb.block _ (by omega)).trans hn1
  have hn4 : w3.heap[w.heap.size + 1]? = some (.cells #[.int .i64 0, .int .i64 0, .slice none 0 0] cdT (0, 0)) := (hb.block _ (by omega)).trans hn2
  have hg := ho.gLt
  have h0 : Dr d w.heap.size w (w3.setCell ⟨w.heap.size, 2, none⟩ (.slice (some ⟨g, 0, none⟩) R.length cap)) := (Dr.of_below hB3 hlow).trans (set_dr hlow (Nat.le_refl _))
  refine ⟨by rw [Lib.cell_of_heap hn3]; rfl, Lib.frozen_of_heap hn3 2, hd, h0.thrown hd, rfl, heap_setCell_s w3 _ 2 _ _ _ hn3, ?_, ?_, fun r hr => ?_, hp, hr, ⟨Nat.le_refl _, hn⟩, hok⟩
  · rw [Below.heap_setCell _ _ _ _ (by show w.heap.size + 1 ≠ w.heap.size; omega)]; exact hn4
  · rw [← hs2]
    exact OwnL.keepO ho fun k hk => Below.heap_setCell _ _ _ _ (by have := (OwnL.ltO ho k hk).1; show k ≠ w.heap.size; omega)
  · refine ((hl r hr).here.mono (B := fun k => k ≠ d.D ∧ k < w.heap.size) (fun k hk => ⟨hA k hk.1, hk.2⟩)).blocksO (w' := w3.setCell ⟨w.heap.size, 2, none⟩ (.slice (some ⟨g, 0, none⟩) R.length cap)) (fun k hk hl => h0.block k hk.2 hk.1) |>.mono (fun k hk => ⟨hk.1, by have := hk.2; omega, by have := hk.2; omega, by have := hk.2; omega⟩)
/-- the cells of an operation in the row -/
theorem Od.opCells {d : Dice} {w wr : World} {cb : Nat} {pr rg : Int} {g n cap : Nat} {R : List Rop} (h : Od d w wr cb pr rg g n cap R) {k : Nat} (hk : k < R.length) :
    wr.cell? ⟨g, k * 6, none⟩ = some (.int .i64 R[k].1.kind) ∧ wr.cell? ⟨g, k * 6 + 1, none⟩ = some (.int .i64 R[k].1.a) ∧ wr.cell? ⟨g, k * 6 + 2, none⟩ = some (.int .i64 R[k].1.b) ∧ wr.cell? ⟨g, k * 6 + 3, none⟩ = some (.int .i64 R[k].1.c) ∧ wr.cell? ⟨g, k * 6 + 4, none⟩ = some (.slice R[k].2.1 R[k].1.list.length R[k].2.2) ∧ ∀ j, wr.frozen? ⟨g, j, none⟩ = false :=
  ⟨h.row.cellOf hk (j := 0) (by decide) rfl, h.row.cellOf hk (j := 1) (by decide) rfl, h.row.cellOf hk (j := 2) (by decide) rfl, h.row.cellOf hk (j := 3) (by decide) rfl, h.row.cellOf hk (j := 4) (by decide) rfl, fun j => h.row.warmAt j⟩
theorem Od.cells {d : Dice} {w wr : World} {cb : Nat} {pr rg : Int} {g n cap : Nat} {R : List Rop} (h : Od d w wr cb pr rg g n cap R) : wr.cell? ⟨cb, 0, none⟩ = some (.int .i64 pr) ∧ wr.cell? ⟨cb, 1, none⟩ = some (.int .i64 rg) ∧ wr.cell? ⟨cb, 2, none⟩ = some (.slice (some ⟨g, 0, none⟩) n cap) ∧ ∀ j, wr.frozen? ⟨cb, j, none⟩ = false := by
  refine ⟨?_, ?_, ?_, fun j => Lib.frozen_of_heap h.box j⟩ <;> rw [Lib.cell_of_heap h.box] <;> rfl
theorem Opp.Odd.set0 {o : Opp} (h : o.Odd) {n : Int} (hn : InI n) : (⟨n, o.a, o.b, o.c, o.list, o.sym⟩ : Opp).Odd := ⟨⟨hn, h.ok.a, h.ok.b, h.ok.c, h.ok.list⟩, h.few, h.sz⟩
theorem Opp.Odd.set1 {o : Opp} (h : o.Odd) {n : Int} (hn : InI n) : (⟨o.kind, n, o.b, o.c, o.list, o.sym⟩ : Opp).Odd := ⟨⟨h.ok.kind, hn, h.ok.b, h.ok.c, h.ok.list⟩, h.few, h.sz⟩
theorem Opp.Odd.set2 {o : Opp} (h : o.Odd) {n : Int} (hn : InI n) : (⟨o.kind, o.a, n, o.c, o.list, o.sym⟩ : Opp).Odd := ⟨⟨h.ok.kind, h.ok.a, hn, h.ok.c, h.ok.list⟩, h.few, h.sz⟩
theorem Opp.Odd.set3 {o : Opp} (h : o.Odd) {n : Int} (hn : InI n) : (⟨o.kind, o.a, o.b, n, o.list, o.sym⟩ : Opp).Odd := ⟨⟨h.ok.kind, h.ok.a, h.ok.b, hn, h.ok.list⟩, h.few, h.sz⟩
theorem Od.put0 {d : Dice} {w wr : World} {cb : Nat} {pr rg : Int} {g n cap : Nat} {R : List Rop} (h : Od d w wr cb pr rg g n cap R) {k : Nat} (hk : k < R.length) {m : Int} (hm : InI m) : ∃ R', R'.length = R.length ∧ Od d w (wr.setCell ⟨g, k * 6, none⟩ (.int .i64 m)) cb pr rg g n cap R' :=
  ⟨R.set k (⟨m, R[k].1.a, R[k].1.b, R[k].1.c, R[k].1.list, R[k].1.sym⟩, R[k].2.1, R[k].2.2), List.length_set, h.setOp (j := 0) hk (by decide) rfl (h.lists R[k] (List.getElem_mem hk)) ((h.ok R[k] (List.getElem_mem hk)).set0 hm)⟩
theorem Od.put1 {d : Dice} {w wr : World} {cb : Nat} {pr rg : Int} {g n cap : Nat} {R : List Rop} (h : Od d w wr cb pr rg g n cap R) {k : Nat} (hk : k < R.length) {m : Int} (hm : InI m) : ∃ R', R'.length = R.length ∧ Od d w (wr.setCell ⟨g, k * 6 + 1, none⟩ (.int .i64 m)) cb pr rg g n cap R' :=
  ⟨R.set k (⟨R[k].1.kind, m, R[k].1.b, R[k].1.c, R[k].1.list, R[k].1.sym⟩, R[k].2.1, R[k].2.2), List.length_set, h.setOp (j := 1) hk (by decide) rfl (h.lists R[k] (List.getElem_mem hk)) ((h.ok R[k] (List.getElem_mem hk)).set1 hm)⟩
theorem Od.put2 {d : Dice} {w wr : World} {cb : Nat} {pr rg : Int} {g n cap : Nat} {R : List Rop} (h : Od d w wr cb pr rg g n cap R) {k : Nat} (hk : k < R.length) {m : Int} (hm : InI m) : ∃ R', R'.length = R.length ∧ Od d w (wr.setCell ⟨g, k * 6 + 2, none⟩ (.int .i64 m)) cb pr rg g n cap R' :=
  ⟨R.set k (⟨R[k].1.kind, R[k].1.a, m, R[k].1.c, R[k].1.list, R[k].1.sym⟩, R[k].2.1, R[k].2.2), List.length_set, h.setOp (j := 2) hk (by decide) rfl (h.lists R[k] (List.getElem_mem hk)) ((h.ok R[k] (List.getElem_mem hk)).set2 hm)⟩
theorem Od.put3 {d : Dice} {w wr : World} {cb : Nat} {pr rg : Int} {g n cap : Nat} {R : List Rop} (h : Od d w wr cb pr rg g n cap R) {k : Nat} (hk : k < R.length) {m : Int} (hm : InI m) : ∃ R', R'.length = R.length ∧ Od d w (wr.setCell ⟨g, k * 6 + 3, none⟩ (.int .i64 m)) cb pr rg g n cap R' :=
  ⟨R.set k (⟨R[k].1.kind, R[k].1.a, R[k].1.b, m, R[k].1.list, R[k].1.sym⟩, R[k].2.1, R[k].2.2), List.length_set, h.setOp (j := 3) hk (by decide) rfl (h.lists R[k] (List.getElem_mem hk)) ((h.ok R[k] (List.getElem_mem hk)).set3 hm)⟩
/-- a longer list -/
theorem Od.put4 {d : Dice} {w wr wy : World} {cb : Nat} {pr rg : Int} {g n cap : Nat} {R : List Rop} (h : Od d w wr cb pr rg g n cap R) {k : Nat} (hk : k < R.length) (hb : Below wr.heap.size wr wy) {p : Option Addr} {m c : Nat} {l : List Int} (ho : OwnL encI intT wy wr.heap.size (.slice p m c) l) (hl : ∀ n ∈ l, InI n) (hn : l.length ≤ 3) :
    ∃ R', R'.length = R.length ∧ Od d w (wy.setCell ⟨g, k * 6 + 4, none⟩ (.slice p m c)) cb pr rg g n cap R' := by
  have h2 : Od d w wy cb pr rg g n cap R := h.later (Dr.of_below hb (dcLow h.thrown.good))
  have hlt := h.lt
  have hD := (dcLow h.thrown.good).1
  have hg := h.row.gLt
  obtain ⟨p', c', e, -⟩ := ho.sla
  injection e with e1 e2 e3
  subst e1; subst e2; subst e3
  have hsl : SlA encI (AwayO d cb g) wy (.slice p l.length c) l := ho.sla.mono (fun k hk => ⟨by omega, by omega, by omega, by omega⟩)
  have hod := h.ok _ (List.getElem_mem hk)
  exact ⟨R.set k (⟨R[k].1.kind, R[k].1.a, R[k].1.b, R[k].1.c, l, R[k].1.sym⟩, p, c), List.length_set, h2.setOp (j := 4) hk (by decide) rfl hsl ⟨⟨hod.ok.kind, hod.ok.a, hod.ok.b, hod.ok.c, hl⟩, hn, hod.sz⟩⟩

/-! ### kinds -/
theorem AD.trans' (d : Dice) (a b c : World) (h : AD d a b) (k : AD d b c) : AD d a c := Dr.trans h (Dr.mono k h.size)
theorem AD.refl' (d : Dice) (w : World) : AD d w w := Dr.refl _ _ _
def tyNumA (d : Dice) (n : Nat) (h : 0 < n) : Ty (AD d) := tyOf (AD d) (α := {k : Nat // k < n}) ⟨⟨0, h⟩⟩ (fun k => .int .i64 (k.1 : Int))
theorem tyNumA_f (d : Dice) (n : Nat) (h : 0 < n) (k : Nat) (hk : k < n) : (tyNumA d n h).f ⟨k, hk⟩ = .int .i64 (k : Int) := rfl
def tyPtrA (d : Dice) (g n : Nat) (h : 0 < n) : Ty (AD d) := tyOf (AD d) (α := {k : Nat // k < n}) ⟨⟨0, h⟩⟩ (fun k => .pointer (some ⟨g, k.1 * 6, none⟩))
theorem tyPtrA_f (d : Dice) (g n : Nat) (h : 0 < n) (k : Nat) (hk : k < n) : (tyPtrA d g n h).f ⟨k, hk⟩ = .pointer (some ⟨g, k * 6, none⟩) := rfl
def tySlA (d : Dice) (g n cap : Nat) (h : 0 < n) : Ty (AD d) := tyOf (AD d) (α := {k : Nat // k < n}) ⟨⟨0, h⟩⟩ (fun k => .slice (some ⟨g, 0, none⟩) k.1 cap)
theorem tySlA_f (d : Dice) (g n cap : Nat) (h : 0 < n) (k : Nat) (hk : k < n) : (tySlA d g n cap h).f ⟨k, hk⟩ = .slice (some ⟨g, 0, none⟩) k cap := rfl
theorem rel_nextA {d : Dice} {m : Nat} {W : World} (h : DiceAt d W) (h1 : 0 < m) (h2 : m ≤ 2000000) :
    AD d W W ∧ Calls Tryd.prog 8 #[.pointer (some ⟨d.D, 0, none⟩), .int .i64 (m : Int)] W (fun e w'' => ∃ x, e = .returned ((tyNumA d m h1).f x) ∧ AD d W w'' ∧ (tyNumA d m h1).φ x w'') := by
  refine ⟨AD.refl' _ _, (next_any d m W h h1 h2).mono ?_⟩
  rintro e w'' ⟨k, hk, rfl, ht, -⟩
  exact ⟨⟨k, hk⟩, rfl, Dr.of_thrown ht (dcLow h).1, trivial⟩
def fiveC : List Int := [-1, 0, 1, 99, 1099511627776]
theorem five_cell (w : World) (k : Nat) (hk : k < 5) : ∃ n, InI n ∧ (w.alloc (.cells #[.int .i64 (-1), .int .i64 0, .int .i64 1, .int .i64 99, .int .i64 1099511627776] intT)).cell? ⟨w.heap.size, k, none⟩ = some (.int .i64 n) := by
  have hc := cellsAt_alloc w [.int .i64 (-1), .int .i64 0, .int .i64 1, .int .i64 99, .int .i64 1099511627776] intT k
  rw [Nat.zero_add] at hc
  rcases k with _ | _ | _ | _ | _ | k
  · exact ⟨-1, by unfold InI; omega, hc _ rfl⟩
  · exact ⟨0, by unfold InI; omega, hc _ rfl⟩
  · exact ⟨1, by unfold InI; omega, hc _ rfl⟩
  · exact ⟨99, by unfold InI; omega, hc _ rfl⟩
  · exact ⟨1099511627776, by unfold InI; omega, hc _ rfl⟩
  · omega

set_option maxHeartbeats 8000000 in
theorem odd_any (d : Dice) (x : Cdd) (A : Nat → Prop) (v : Value) (w : World) (hd : DiceAt d w) (hv : CdM A w v x) (hx : x.Small) (hA : ∀ k, A k → k ≠ d.D) :
    Calls Tryd.prog 10 #[.pointer (some ⟨d.D, 0, none⟩), v] w fun e w' => ∃ (v' : Value) (x' : Cdd), e = .returned v' ∧ CdA (fun k => k ≠ d.D) w' v' x' ∧ x'.Odd ∧ Thrown d w w' := by
  obtain ⟨p, c, rfl, R, hR, hsl, hls, hok⟩ := hv
  have hRl : x.ops.length = R.length := by rw [← hR, List.length_map]
  rw [hRl] at hsl ⊢
  have hn0 : 0 < R.length := by rw [← hRl]; exact hx.some
  have hn15 : R.length ≤ 15 := by rw [← hRl]; exact hx.few
  have HNL : Hid (∀ r ∈ R, r.2.1 = none → r.2.2 = 0) := fun r hr => (hok r hr).2
  have HFW : Hid (∀ r ∈ R, r.1.list.length ≤ 2) := fun r hr => (hok r hr).1.few
  have hodd : ∀ r ∈ R, r.1.Odd := fun r hr => ⟨(hok r hr).1.ok, by have := (hok r hr).1.few; omega, (hok r hr).1.sz⟩
  obtain ⟨b0, o0, rfl, _, hcl0⟩ := (show ∃ b off, p = some ⟨b, off, none⟩ ∧ A b ∧ CellsAt w b off (encOp.all R) by
    obtain ⟨p', c', e, _, _, h4⟩ := hsl
    injection e with e1 _ _
    subst e1
    exact h4 hn0)
  obtain ⟨pr, hpr⟩ : ∃ y, x.params = y := ⟨_, rfl⟩
  obtain ⟨rg, hrg⟩ : ∃ y, x.regs = y := ⟨_, rfl⟩
  have hpi : InI pr := hpr ▸ hx.ok.params
  have hri : InI rg := hrg ▸ hx.ok.regs
  rw [hpr, hrg]
  obtain ⟨w2, hw2⟩ : ∃ y, (w.alloc (.cells #[.int .i64 pr, .int .i64 rg, .slice (some ⟨b0, o0, none⟩) R.length c] cdT)).alloc (.cells #[.int .i64 0, .int .i64 0, .slice none 0 0] cdT) = y := ⟨_, rfl⟩
  have hb1 := below_box w (.cells #[.int .i64 pr, .int .i64 rg, .slice (some ⟨b0, o0, none⟩) R.length c] cdT)
  have hb2 := below_box (w.alloc (.cells #[.int .i64 pr, .int .i64 rg, .slice (some ⟨b0, o0, none⟩) R.length c] cdT)) (.cells #[.int .i64 0, .int .i64 0, .slice none 0 0] cdT)
  have hs1 : (w.alloc (.cells #[.int .i64 pr, .int .i64 rg, .slice (some ⟨b0, o0, none⟩) R.length c] cdT)).heap.size = w.heap.size + 1 := World.size_alloc _ _
  have y2 : w2.cell? ⟨w.heap.size, 2, none⟩ = some (.slice (some ⟨b0, o0, none⟩) R.length c) := by
    rw [← hw2, Lib.cell_of_heap ((hb2.block w.heap.size (by omega)).trans (heap_alloc_new w _))]
    rfl
  rw [hw2] at hb2
  have HCL : Hid (CellsAt w2 b0 o0 (encOp.all R)) := (hcl0.below hb1).below hb2
  have HBG := Lib.hid (fun (w3 : World) (g cap : Nat) (hb : Below w2.heap.size w2 w3) (ho : OwnL encOp opT w3 w2.heap.size (.slice (some ⟨g, 0, none⟩) R.length cap) R) => Od.begin hd hw2 hb ho hls hA hpi hri hn15 hodd)
  have R1 : Hid (([] : List Rop).length + R.length ≤ maxLen) := by unfold Hid maxLen; simp; omega
  have R2 : Hid ((([] : List Rop).length + R.length) * 72 ≤ 140737488355328) := by unfold Hid; simp; omega
  have HN0 := Lib.hid hn0
  clear hb1 hb2 hcl0 hsl hls hok hodd hA hpr hrg hRl hR hx hd hpi hri
  go_enter Tryd.func10, Tryd.ntmps10
  go_wp2_with (at_builtin; refine wpList_appendL (E := encOp) Tryd.underlying22 info_op rfl rfl (.const (.slice none 0 0)) (.tmp 8) rfl w2.heap.size (.slice none 0 0) [] ?_ ?_ (some ⟨b0, o0, none⟩) R.length c R ?_ ?_ ?_ ?_ ?_ ?_ ?_ ?_)
  · rfl
  · exact OwnL.isNil _ _ _ _
  · rfl
  · rfl
  · exact fun _ => ⟨b0, o0, rfl, HCL.out⟩
  · exact fun e => by cases e
  · exact R1
  · exact R2
  · exact Nat.le_refl _
  intro v3 w3 hown3 hb3
  obtain ⟨g, cap, rfl⟩ : ∃ g cap, v3 = .slice (some ⟨g, 0, none⟩) R.length cap := by
    obtain ⟨_, ⟨_, h0⟩ | ⟨g, cap, cur, e, _⟩⟩ := hown3
    · have := HN0.out; omega
    · exact ⟨g, cap, e⟩
  obtain ⟨x2, f2, hod⟩ := HBG.out w3 g cap hb3 hown3
  obtain ⟨w4, hw4⟩ : ∃ y, w3.setCell ⟨w.heap.size, 2, none⟩ (.slice (some ⟨g, 0, none⟩) R.length cap) = y := ⟨_, rfl⟩
  rw [hw4] at hod
  have HOD := Lib.hid hod
  have hcs := hod.lt
  have hal := below_box w4 (.cells #[.int .i64 (-1), .int .i64 0, .int .i64 1, .int .i64 99, .int .i64 1099511627776] intT)
  have HO5 := Lib.hid (hod.later (Dr.of_below hal (dcLow hod.thrown.good)))
  have HFV := Lib.hid (five_cell w4)
  have hs5 : (w4.alloc (.cells #[.int .i64 (-1), .int .i64 0, .int .i64 1, .int .i64 99, .int .i64 1099511627776] intT)).heap.size = w4.heap.size + 1 := World.size_alloc _ _
  obtain ⟨w5, hw5⟩ : ∃ y, w4.alloc (.cells #[.int .i64 (-1), .int .i64 0, .int .i64 1, .int .i64 99, .int .i64 1099511627776] intT) = y := ⟨_, rfl⟩
  rw [hw5] at HO5 HFV hs5
  have HS5 := Lib.hid hs5
  have HDW : Hid (d.D ≠ w4.heap.size ∧ d.D < w4.heap.size) := by have := (dcLow hod.thrown.good).1; exact ⟨by omega, by omega⟩
  clear hown3 hb3 hod hal hs5 HBG HCL
  go_wp2_with fail
  refine (next_any d 5 _ HO5.out.thrown.good (by omega) (by omega)).mono ?_
  rintro e w6 ⟨k5, hk5, rfl, ht6, -⟩
  have hdr6 := Dr.of_thrown ht6 (by have := HDW.out; have := HS5.out; omega)
  have HO6 := Lib.hid (HO5.out.later hdr6)
  obtain ⟨vv, hvv, hcv⟩ := HFV.out k5 hk5
  have y5 : w6.cell? ⟨w4.heap.size, k5, none⟩ = some (.int .i64 vv) := by
    rw [World.cell?_of_block (w := w5) (a := ⟨w4.heap.size, k5, none⟩) (hdr6.block w4.heap.size (by have := HS5.out; omega) (fun e => HDW.out.1 e.symm))]
    exact hcv
  have hk5i : (k5 : Int) < 5 := by omega
  have HVV : Hid (InI vv) := hvv
  obtain ⟨z0, z1, z2, zf⟩ := HO6.out.cells
  obtain ⟨nR, hnR⟩ : ∃ y, R.length = y := ⟨_, rfl⟩
  rw [hnR] at hn0 hn15 z2 HO6 ⊢
  have hnR0 : 0 < (nR : Int) := by omega
  generalize hcb : w.heap.size = cb at *
  have HNR := Lib.hid hnR
  clear hvv hcv ht6 hdr6 HO5 HFV hw2 hw4 hw5 x2 f2 y2 HOD hnR R1 R2 HN0
  have HPOS : Hid (nR ≤ 2000000) := by show _ ≤ _; omega
  have HLT6 : Hid (DiceAt d w6.drew ∧ (∀ W, AD d w6.drew W → W.cell? ⟨cb, 2, none⟩ = some (.slice (some ⟨g, 0, none⟩) nR cap))) := by
    have hg0 : DiceAt d w6.drew := (Dr.of_below (Below.refl _ _).drew (dcLow HO6.out.thrown.good)).good HO6.out.thrown.good
    refine ⟨hg0, fun W hW => ?_⟩
    have h1 := HO6.out.lt
    have hD := (dcLow HO6.out.start).1
    have hat := HO6.out.at_
    rw [World.cell?_of_block (w := w6.drew) (a := ⟨cb, 2, none⟩) (hW.block cb (by show cb < w6.heap.size; omega) (by omega))]
    exact z2
  go_wp2_with fail
  apply wp_region_rel (AD.refl' d) (AD.trans' d)
  case hm => kernel_rfl
  case hB => kernel_rfl
  apply wpRel_cons (t := tyIs _ _)
  case h1 => (intro W hl hd2; clear hl hd2; unfold relAt; go_simp; exact rel_is (AD.refl' d))
  intro _
  rw [tyIs_f]
  go_simp
  apply wpRel_cons (t := tyIs _ _)
  case h1 => (intro W hl hd2; have y1 := HLT6.out.2 W hl; clear hl hd2; unfold relAt; go_simp; exact rel_is (AD.refl' d))
  intro _
  rw [tyIs_f]
  go_simp
  apply wpRel_cons (t := tyIs _ _)
  case h1 => (intro W hl hd2; clear hl hd2; unfold relAt; go_simp; exact rel_is (AD.refl' d))
  intro _
  rw [tyIs_f]
  go_simp
  apply wpRel_cons (t := tyIs _ _)
  case h1 => (intro W hl hd2; clear hl hd2; unfold relAt; go_simp; exact rel_is (AD.refl' d))
  intro _
  rw [tyIs_f]
  go_simp
  apply wpRel_cons (t := tyIs _ _)
  case h1 => (intro W hl hd2; have y1 := HLT6.out.2 W hl; clear hl hd2; unfold relAt; go_simp; exact rel_is (AD.refl' d))
  intro _
  rw [tyIs_f]
  go_simp
  apply wpRel_cons (t := tyIs _ _)
  case h1 => (intro W hl hd2; clear hl hd2; unfold relAt; go_simp; exact rel_is (AD.refl' d))
  intro _
  rw [tyIs_f]
  go_simp
  apply wpRel_cons (t := tyNumA d nR hn0)
  case h1 => (intro W hl hd2; have hg1 := hl.good HLT6.out.1; clear hl hd2; unfold relAt; go_simp; exact rel_nextA hg1 hn0 HPOS.out)
  rintro ⟨k6, hk6⟩
  rw [tyNumA_f]
  go_simp
  have hk6i : (k6 : Int) < (nR : Int) := by omega
  apply wpRel_cons (t := tyPtrA d g nR hn0)
  case h1 => (intro W hl hd2; clear hl hd2; unfold relAt; go_simp; exact ⟨AD.refl' d W, ⟨k6, hk6⟩, rfl, trivial⟩)
  rintro ⟨k7, hk7⟩
  rw [tyPtrA_f]
  go_simp
  apply wpRel_cons (t := tyPtrA d g nR hn0)
  case h1 => (intro W hl hd2; clear hl hd2; unfold relAt; go_simp; exact ⟨AD.refl' d W, ⟨k7, hk7⟩, rfl, trivial⟩)
  rintro ⟨k8, hk8⟩
  rw [tyPtrA_f]
  go_simp
  apply wpRel_nil (Ts := [])
  intro w7 hl hF
  have HO7 := Lib.hid (HO6.out.later ((Dr.of_below ((Below.refl w6.heap.size w6).drew) (dcLow HO6.out.thrown.good)).trans (Dr.mono hl (Nat.le_refl _))))
  clear hl hF HO6 HLT6 z0 z1 z2 zf y5
  go_wp2_with fail
  refine (next_any d 8 _ HO7.out.thrown.good (by omega) (by omega)).mono ?_
  rintro e w8 ⟨k9, hk9, rfl, ht8, -⟩
  have HO8 := Lib.hid (HO7.out.later (Dr.of_thrown ht8 (dcLow HO7.out.thrown.good).1))
  clear ht8 HO7
  obtain ⟨kv, hkv0⟩ : ∃ kv : Int, kv = (k9 : Int) := ⟨_, rfl⟩
  rw [← hkv0]
  have hkv : kv = 0 ∨ kv = 1 ∨ kv = 2 ∨ kv = 3 ∨ kv = 4 ∨ kv = 5 ∨ kv = 6 ∨ kv = 7 := by omega
  clear hkv0 hk9
  have HKR : Hid (k8 < R.length) := by show _ < _; rw [HNR.out]; exact hk8
  rcases hkv with rfl | rfl | rfl | rfl | rfl | rfl | rfl | rfl
  · go_wp2_with fail
    refine (next_any d 22 _ HO8.out.thrown.good (by omega) (by omega)).mono ?_
    rintro e wA ⟨kA, hkA, rfl, htA, -⟩
    have HOA := Lib.hid (HO8.out.later (Dr.of_thrown htA (dcLow HO8.out.thrown.good).1))
    clear htA HO8
    obtain ⟨zz, hzz⟩ : ∃ zz : Int, zz = (kA : Int) - 1 := ⟨_, rfl⟩
    have ez : IntKind.i64.wrap ((kA : Int) - 1) = zz := by rw [IntWalk.i64_in _ (by omega)]; omega
    have HZI : Hid (InI zz) := by show InI zz; unfold InI; omega
    clear hzz
    obtain ⟨c0, c1, c2, c3, c4, cf⟩ := HOA.out.opCells HKR.out
    obtain ⟨R', hR', hod9⟩ := HOA.out.put0 HKR.out (HZI.out)
    obtain ⟨w9, hw9⟩ : ∃ y, wA.setCell ⟨g, k8 * 6, none⟩ (.int .i64 zz) = y := ⟨_, rfl⟩
    rw [hw9] at hod9
    have HO9 := Lib.hid hod9
    clear hod9
    obtain ⟨z0, z1, z2, zf⟩ := HO9.out.cells
    obtain ⟨⟨q0, q1, q2⟩, ⟨g0, g1, g2⟩, hfin⟩ := cd_store HO9.out.res pr rg (some ⟨g, 0, none⟩) nR cap
    have HLD := Lib.hid (load_cd _ _ _ _ _ _ _ hfin)
    have HFIN := Lib.hid HO9.out.fin
    clear hfin
    go_wp2_with fail
    exact bodyPost_ret (results_cell1 rfl _ _ _ ⟨cb + 1, 0, none⟩ _ rfl HLD.out) rfl HFIN.out
  · obtain ⟨c0, c1, c2, c3, c4, cf⟩ := HO8.out.opCells HKR.out
    obtain ⟨R', hR', hod9⟩ := HO8.out.put1 HKR.out (HVV.out)
    obtain ⟨w9, hw9⟩ : ∃ y, w8.setCell ⟨g, k8 * 6 + 1, none⟩ (.int .i64 vv) = y := ⟨_, rfl⟩
    rw [hw9] at hod9
    have HO9 := Lib.hid hod9
    clear hod9
    obtain ⟨z0, z1, z2, zf⟩ := HO9.out.cells
    obtain ⟨⟨q0, q1, q2⟩, ⟨g0, g1, g2⟩, hfin⟩ := cd_store HO9.out.res pr rg (some ⟨g, 0, none⟩) nR cap
    have HLD := Lib.hid (load_cd _ _ _ _ _ _ _ hfin)
    have HFIN := Lib.hid HO9.out.fin
    clear hfin
    go_wp2_with fail
    exact bodyPost_ret (results_cell1 rfl _ _ _ ⟨cb + 1, 0, none⟩ _ rfl HLD.out) rfl HFIN.out
  · obtain ⟨c0, c1, c2, c3, c4, cf⟩ := HO8.out.opCells HKR.out
    obtain ⟨R', hR', hod9⟩ := HO8.out.put2 HKR.out (HVV.out)
    obtain ⟨w9, hw9⟩ : ∃ y, w8.setCell ⟨g, k8 * 6 + 2, none⟩ (.int .i64 vv) = y := ⟨_, rfl⟩
    rw [hw9] at hod9
    have HO9 := Lib.hid hod9
    clear hod9
    obtain ⟨z0, z1, z2, zf⟩ := HO9.out.cells
    obtain ⟨⟨q0, q1, q2⟩, ⟨g0, g1, g2⟩, hfin⟩ := cd_store HO9.out.res pr rg (some ⟨g, 0, none⟩) nR cap
    have HLD := Lib.hid (load_cd _ _ _ _ _ _ _ hfin)
    have HFIN := Lib.hid HO9.out.fin
    clear hfin
    go_wp2_with fail
    exact bodyPost_ret (results_cell1 rfl _ _ _ ⟨cb + 1, 0, none⟩ _ rfl HLD.out) rfl HFIN.out
  · obtain ⟨c0, c1, c2, c3, c4, cf⟩ := HO8.out.opCells HKR.out
    obtain ⟨R', hR', hod9⟩ := HO8.out.put3 HKR.out (HVV.out)
    obtain ⟨w9, hw9⟩ : ∃ y, w8.setCell ⟨g, k8 * 6 + 3, none⟩ (.int .i64 vv) = y := ⟨_, rfl⟩
    rw [hw9] at hod9
    have HO9 := Lib.hid hod9
    clear hod9
    obtain ⟨z0, z1, z2, zf⟩ := HO9.out.cells
    obtain ⟨⟨q0, q1, q2⟩, ⟨g0, g1, g2⟩, hfin⟩ := cd_store HO9.out.res pr rg (some ⟨g, 0, none⟩) nR cap
    have HLD := Lib.hid (load_cd _ _ _ _ _ _ _ hfin)
    have HFIN := Lib.hid HO9.out.fin
    clear hfin
    go_wp2_with fail
    exact bodyPost_ret (results_cell1 rfl _ _ _ ⟨cb + 1, 0, none⟩ _ rfl HLD.out) rfl HFIN.out
  · have hsl4 := HO8.out.lists _ (List.getElem_mem HKR.out)
    have hnl4 := HNL.out _ (List.getElem_mem HKR.out)
    have hli4 := (HO8.out.ok _ (List.getElem_mem HKR.out)).ok.list
    have hfw4 := HFW.out _ (List.getElem_mem HKR.out)
    obtain ⟨c0, c1, c2, c3, c4, cf⟩ := HO8.out.opCells HKR.out
    generalize R[k8]'HKR.out = r8 at *
    obtain ⟨⟨ok0, oa0, ob0, oc0, ll, os0⟩, lp, lc⟩ := r8
    simp only [Rop.sl] at hsl4 hnl4 hli4 hfw4 c0 c1 c2 c3 c4
    have HLS4 : Hid (LiesL encI w8 lp ll) := fun h0 => by
      obtain ⟨p', c', e, _, _, h4⟩ := hsl4
      injection e with e1 _ _
      subst e1
      obtain ⟨b, o, e, _, hc⟩ := h4 h0
      exact ⟨b, o, e, hc⟩
    have HNL4 : Hid (lp = none → lc = 0) := hnl4
    have HLI4 : Hid (∀ n ∈ ll ++ [vv], InI n) := fun n hn => by
      rcases List.mem_append.1 hn with h | h
      · exact hli4 n h
      · rw [List.mem_singleton] at h; rw [h]; exact HVV.out
    have R3 : Hid (([] : List Int).length + ll.length ≤ maxLen) := by unfold Hid maxLen; simp; omega
    have R4 : Hid ((([] : List Int).length + ll.length) * 8 ≤ 140737488355328) := by unfold Hid; simp; omega
    have R5 : Hid (ll.length + ([vv] : List Int).length ≤ maxLen) := by unfold Hid maxLen; simp; omega
    have R6 : Hid ((ll.length + ([vv] : List Int).length) * 8 ≤ 140737488355328) := by unfold Hid; simp; omega
    have HLF : Hid ((ll ++ [vv]).length ≤ 3) := by show _ ≤ _; simp; omega
    clear hsl4 hnl4 hli4 hfw4
    go_wp2_with (at_builtin; refine wpList_appendL (E := encI) Tryd.underlying25 info_i rfl rfl (.const (.slice none 0 0)) (.tmp 74) rfl w8.heap.size (.slice none 0 0) [] ?_ ?_ lp ll.length lc ll ?_ ?_ ?_ ?_ ?_ ?_ ?_ ?_)
    · rfl
    · exact OwnL.isNil _ _ _ _
    · rfl
    · rfl
    · exact HLS4.out
    · exact HNL4.out
    · exact R3
    · exact R4
    · exact Nat.le_refl _
    intro vL wL hownL hbL
    obtain ⟨pL, cL, rfl, -⟩ := hownL.sla.shape
    have hal := below_box wL (.cells #[.int .i64 vv] intT)
    have hnw : CellsAt (wL.alloc (.cells #[.int .i64 vv] intT)) wL.heap.size 0 (encI.all [vv]) := cellsAt_alloc wL [.int .i64 vv] intT
    have HNW := Lib.hid hnw
    have HOL : Hid (OwnL encI intT (wL.alloc (.cells #[.int .i64 vv] intT)) w8.heap.size (.slice pL ll.length cL) ll) := hownL.alloc _
    have HBL : Hid (Below w8.heap.size w8 (wL.alloc (.cells #[.int .i64 vv] intT))) := hbL.trans (hal.mono hbL.size)
    have HSL : Hid (w8.heap.size ≤ (wL.alloc (.cells #[.int .i64 vv] intT)).heap.size) := HBL.out.size
    clear hownL hbL hal hnw c0 c1 c2 c3 c4 cf HLS4 HNL4
    go_wp2_with (at_builtin; refine wpList_appendL (E := encI) Tryd.underlying25 info_i rfl rfl (.tmp 75) (.tmp 77) rfl w8.heap.size (.slice pL ll.length cL) ll ?_ ?_ (some ⟨wL.heap.size, 0, none⟩) 1 1 [vv] ?_ ?_ ?_ ?_ ?_ ?_ ?_ ?_)
    · rfl
    · exact HOL.out
    · rfl
    · rfl
    · exact fun _ => ⟨wL.heap.size, 0, rfl, HNW.out⟩
    · exact fun e => by cases e
    · exact R5
    · exact R6
    · exact HSL.out
    intro vM wM hownM hbM
    obtain ⟨pM, cM, rfl, -⟩ := hownM.sla.shape
    have hb9 := HBL.out.trans hbM
    have HOM := Lib.hid (HO8.out.later (Dr.of_below hb9 (dcLow HO8.out.thrown.good)))
    obtain ⟨R', hR', hod9⟩ := HO8.out.put4 HKR.out hb9 hownM HLI4.out HLF.out
    obtain ⟨nM, hnM⟩ : ∃ y, (ll ++ [vv]).length = y := ⟨_, rfl⟩
    rw [hnM] at hod9 ⊢
    obtain ⟨c0, c1, c2, c3, c4, cf⟩ := HOM.out.opCells HKR.out
    obtain ⟨w9, hw9⟩ : ∃ y, wM.setCell ⟨g, k8 * 6 + 4, none⟩ (.slice pM nM cM) = y := ⟨_, rfl⟩
    rw [hw9] at hod9
    have HO9 := Lib.hid hod9
    clear hod9 hownM hbM hb9 hnM HOL HBL HSL HNW
    obtain ⟨z0, z1, z2, zf⟩ := HO9.out.cells
    obtain ⟨⟨q0, q1, q2⟩, ⟨g0, g1, g2⟩, hfin⟩ := cd_store HO9.out.res pr rg (some ⟨g, 0, none⟩) nR cap
    have HLD := Lib.hid (load_cd _ _ _ _ _ _ _ hfin)
    have HFIN := Lib.hid HO9.out.fin
    clear hfin
    go_wp2_with fail
    exact bodyPost_ret (results_cell1 rfl _ _ _ ⟨cb + 1, 0, none⟩ _ rfl HLD.out) rfl HFIN.out
  · obtain ⟨y0, y1, y2', yf⟩ := HO8.out.cells
    obtain ⟨w9, hw9⟩ : ∃ y, w8.setCell ⟨cb, 0, none⟩ (.int .i64 vv) = y := ⟨_, rfl⟩
    have HO9 : Hid (Od d w w9 cb vv rg g nR cap R) := by
      rw [← hw9]
      exact HO8.out.setBox rfl HVV.out HO8.out.ri (by have := HNR.out; omega)
    obtain ⟨z0, z1, z2, zf⟩ := HO9.out.cells
    obtain ⟨⟨q0, q1, q2⟩, ⟨g0, g1, g2⟩, hfin⟩ := cd_store HO9.out.res vv rg (some ⟨g, 0, none⟩) nR cap
    have HLD := Lib.hid (load_cd _ _ _ _ _ _ _ hfin)
    have HFIN := Lib.hid HO9.out.fin
    clear hfin
    go_wp2_with fail
    exact bodyPost_ret (results_cell1 rfl _ _ _ ⟨cb + 1, 0, none⟩ _ rfl HLD.out) rfl HFIN.out
  · go_wp2_with fail
    refine (next_any d 5 _ HO8.out.thrown.good (by omega) (by omega)).mono ?_
    rintro e wA ⟨kA, hkA, rfl, htA, -⟩
    have HOA := Lib.hid (HO8.out.later (Dr.of_thrown htA (dcLow HO8.out.thrown.good).1))
    clear htA HO8
    obtain ⟨zz, hzz⟩ : ∃ zz : Int, zz = (kA : Int) - 1 := ⟨_, rfl⟩
    have ez : IntKind.i64.wrap ((kA : Int) - 1) = zz := by rw [IntWalk.i64_in _ (by omega)]; omega
    have HZI : Hid (InI zz) := by show InI zz; unfold InI; omega
    clear hzz
    obtain ⟨y0, y1, y2', yf⟩ := HOA.out.cells
    obtain ⟨w9, hw9⟩ : ∃ y, wA.setCell ⟨cb, 1, none⟩ (.int .i64 zz) = y := ⟨_, rfl⟩
    have HO9 : Hid (Od d w w9 cb pr zz g nR cap R) := by
      rw [← hw9]
      exact HOA.out.setBox rfl HOA.out.pi HZI.out (by have := HNR.out; omega)
    obtain ⟨z0, z1, z2, zf⟩ := HO9.out.cells
    obtain ⟨⟨q0, q1, q2⟩, ⟨g0, g1, g2⟩, hfin⟩ := cd_store HO9.out.res pr zz (some ⟨g, 0, none⟩) nR cap
    have HLD := Lib.hid (load_cd _ _ _ _ _ _ _ hfin)
    have HFIN := Lib.hid HO9.out.fin
    clear hfin
    go_wp2_with fail
    exact bodyPost_ret (results_cell1 rfl _ _ _ ⟨cb + 1, 0, none⟩ _ rfl HLD.out) rfl HFIN.out
  · obtain ⟨y0, y1, y2', yf⟩ := HO8.out.cells
    have HLT8 : Hid (DiceAt d w8.drew ∧ (∀ W, AD d w8.drew W → W.cell? ⟨cb, 2, none⟩ = some (.slice (some ⟨g, 0, none⟩) nR cap) ∧ W.frozen? ⟨cb, 2, none⟩ = false)) := by
      have hg0 : DiceAt d w8.drew := (Dr.of_below (Below.refl _ _).drew (dcLow HO8.out.thrown.good)).good HO8.out.thrown.good
      refine ⟨hg0, fun W hW => ?_⟩
      have h1 := HO8.out.lt
      have hD := (dcLow HO8.out.start).1
      have hat := HO8.out.at_
      have hbk := hW.block cb (by show cb < w8.heap.size; omega) (by omega)
      exact ⟨by rw [World.cell?_of_block (w := w8.drew) (a := ⟨cb, 2, none⟩) hbk]; exact y2', by rw [World.frozen?_of_block (w := w8.drew) (a := ⟨cb, 2, none⟩) hbk]; exact yf 2⟩
    have HCAP : Hid (nR ≤ cap) := by
      obtain ⟨_, ⟨hv, _⟩ | ⟨g', cap', cur, hv, _, _, hn, _⟩⟩ := HO8.out.row
      · injection hv with hv; cases hv
      · injection hv with _ _ e3; rw [← e3] at hn; rw [HNR.out] at hn; exact hn
    clear y0 y1 y2' yf
    go_wp2_with fail
    apply wp_region_relT (AD.refl' d) (AD.trans' d) 9
    case hm => kernel_rfl
    case hB => kernel_rfl
    simp only [List.take_succ_cons, List.take_zero, List.drop_succ_cons, List.drop_zero]
    apply wpRel_cons (t := tyIs _ _)
    case h1 => (intro W hl hd2; clear hl hd2; unfold relAt; go_simp; exact rel_is (AD.refl' d))
    intro _
    rw [tyIs_f]
    go_simp
    apply wpRel_cons (t := tyIs _ _)
    case h1 => (intro W hl hd2; have y1 := (HLT8.out.2 W hl).1; clear hl hd2; unfold relAt; go_simp; exact rel_is (AD.refl' d))
    intro _
    rw [tyIs_f]
    go_simp
    apply wpRel_cons (t := tyIs _ _)
    case h1 => (intro W hl hd2; clear hl hd2; unfold relAt; go_simp; exact rel_is (AD.refl' d))
    intro _
    rw [tyIs_f]
    go_simp
    apply wpRel_cons (t := tyIs _ _)
    case h1 => (intro W hl hd2; clear hl hd2; unfold relAt; go_simp; exact rel_is (AD.refl' d))
    intro _
    rw [tyIs_f]
    go_simp
    apply wpRel_cons (t := tyIs _ _)
    case h1 => (intro W hl hd2; have y1 := (HLT8.out.2 W hl).1; clear hl hd2; unfold relAt; go_simp; exact rel_is (AD.refl' d))
    intro _
    rw [tyIs_f]
    go_simp
    apply wpRel_cons (t := tyIs _ _)
    case h1 => (intro W hl hd2; clear hl hd2; unfold relAt; go_simp; exact rel_is (AD.refl' d))
    intro _
    rw [tyIs_f]
    go_simp
    apply wpRel_cons (t := tyNumA d nR hn0)
    case h1 => (intro W hl hd2; have hg1 := hl.good HLT8.out.1; clear hl hd2; unfold relAt; go_simp; exact rel_nextA hg1 hn0 HPOS.out)
    rintro ⟨k6, hk6⟩
    rw [tyNumA_f]
    go_simp
    have hk6c : (k6 : Int) ≤ (cap : Int) := by have := HCAP.out; omega
    have hk6d : k6 ≤ cap := by omega
    apply wpRel_cons (t := tySlA d g nR cap hn0)
    case h1 => (intro W hl hd2; clear hl hd2; unfold relAt; go_simp; exact ⟨AD.refl' d W, ⟨k6, hk6⟩, rfl, trivial⟩)
    rintro ⟨k7', hk7'⟩
    rw [tySlA_f]
    go_simp
    apply wpRel_cons (t := tyIs _ _)
    case h1 => (intro W hl hd2; clear hl hd2; unfold relAt; go_simp; exact rel_is (AD.refl' d))
    intro _
    rw [tyIs_f]
    go_simp
    apply wpRel_nil (Ts := [])
    intro wA hl hF
    have hOA := HO8.out.later ((Dr.of_below ((Below.refl w8.heap.size w8).drew) (dcLow HO8.out.thrown.good)).trans (Dr.mono hl (Nat.le_refl _)))
    obtain ⟨y1, f1⟩ := HLT8.out.2 wA hl
    obtain ⟨w9, hw9⟩ : ∃ y, wA.setCell ⟨cb, 2, none⟩ (.slice (some ⟨g, 0, none⟩) k7' cap) = y := ⟨_, rfl⟩
    have HO9 : Hid (Od d w w9 cb pr rg g k7' cap R) := by
      rw [← hw9]
      exact hOA.setBox rfl hOA.pi hOA.ri (by have := HNR.out; omega)
    clear hl hF hOA HLT8
    obtain ⟨z0, z1, z2, zf⟩ := HO9.out.cells
    obtain ⟨⟨q0, q1, q2⟩, ⟨g0, g1, g2⟩, hfin⟩ := cd_store HO9.out.res pr rg (some ⟨g, 0, none⟩) k7' cap
    have HLD := Lib.hid (load_cd _ _ _ _ _ _ _ hfin)
    have HFIN := Lib.hid HO9.out.fin
    clear hfin
    go_wp2_with fail
    exact bodyPost_ret (results_cell1 rfl _ _ _ ⟨cb + 1, 0, none⟩ _ rfl HLD.out) rfl HFIN.out
end Go.Proofs.YthikdkeanndidaaDoor
