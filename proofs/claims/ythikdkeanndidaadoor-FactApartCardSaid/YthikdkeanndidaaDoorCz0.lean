/-
  LAWS: how long the strings of codes are; three codes in a row.
-/
import Derived.Test.YthikdkeanndidaaDoorCy
namespace Go.Proofs.YthikdkeanndidaaDoor
open Go Go.RowKit Go.Maps
set_option linter.unusedVariables false
set_option linter.unusedSimpArgs false
set_option maxRecDepth 1000000

def sumC (L : List ByteArray) : Nat := (L.map ByteArray.size).sum
theorem packL_sumC {L : List ByteArray} (h : ∀ x ∈ L, x.size ≤ 140737488355328) : (Fa.packL L).length ≤ sumC L + 21 * L.length := by
  induction L with
  | nil => simp [Fa.packL]
  | cons x L ih =>
    have h1 := ih (fun y hy => h y (List.mem_cons_of_mem _ hy))
    have h2 := h x (by simp)
    have h3 := (Fa.itoa_len (x.size : Int) (by omega) (by omega)).1
    unfold sumC at h1 ⊢
    simp only [Fa.packL, List.map_cons, List.sum_cons, List.length_cons, List.length_append, Fa.len_data]
    omega
theorem sumC_le {L : List ByteArray} {B : Nat} (h : ∀ x ∈ L, x.size ≤ B) : sumC L ≤ L.length * B := by
  induction L with
  | nil => simp [sumC]
  | cons x L ih =>
    have h1 := ih (fun y hy => h y (List.mem_cons_of_mem _ hy))
    have h2 := h x (by simp)
    unfold sumC at h1 ⊢
    simp only [List.map_cons, List.sum_cons, List.length_cons, Nat.succ_mul]
    omega
theorem itS_sz {n : Int} (h : InI n) : (itS n).size ≤ 20 := by
  rw [← Fa.len_data, itS_data]
  exact (Fa.itoa_len n h.1 h.2).1
theorem numsS_size {l : List Int} (h : ∀ n ∈ l, InI n) (hl : l.length ≤ 3000000000000) : (Fa.numsS l).size ≤ 41 * l.length := by
  have h1 : ∀ x ∈ l.map itS, x.size ≤ 20 := fun x hx => by
    obtain ⟨n, hn, rfl⟩ := List.mem_map.1 hx
    exact itS_sz (h n hn)
  have h2 := packL_sumC (L := l.map itS) (fun x hx => Nat.le_trans (h1 x hx) (by decide))
  have h3 := sumC_le h1
  rw [List.length_map] at h2 h3
  have h4 : (Fa.numsS l).size = _ := Fa.packS_size _
  omega
theorem opS_size {o : Opp} (h : o.Ok) (hl : o.list.length ≤ 3000000000000) (hs : o.sym.size ≤ 3000000000000) : (Fa.opS o).size ≤ 206 + 41 * o.list.length + o.sym.size := by
  have h1 := itS_sz h.kind
  have h2 := itS_sz h.a
  have h3 := itS_sz h.b
  have h4 := itS_sz h.c
  have h5 := numsS_size h.list hl
  have h6 := packL_sumC (L := [itS o.kind, itS o.a, itS o.b, itS o.c, Fa.numsS o.list, o.sym]) (fun x hx => by
    simp only [List.mem_cons, List.not_mem_nil, or_false] at hx
    rcases hx with rfl | rfl | rfl | rfl | rfl | rfl <;> omega)
  have h7 : (Fa.opS o).size = _ := Fa.packS_size _
  simp only [sumC, List.map_cons, List.map_nil, List.sum_cons, List.sum_nil, List.length_cons, List.length_nil] at h6
  omega
/-- how long the string of a code is -/
theorem cdS_size {x : Cdd} (hx : x.Ok) {B : Nat} (hB : B ≤ 100000000) (ho : ∀ o ∈ x.ops, o.list.length ≤ 3000000000000 ∧ o.sym.size ≤ 3000000000000) (hs : ((x.ops.map Fa.opS).map ByteArray.size).sum ≤ B) (hn : x.ops.length ≤ 1000000) : (Fa.cdS x).size ≤ 103 + B + 21 * x.ops.length := by
  have hm : ∀ y ∈ x.ops.map Fa.opS, y.size ≤ B := fun y hy => by
    have key : ∀ (L : List ByteArray), y ∈ L → y.size ≤ (L.map ByteArray.size).sum := by
      intro L
      induction L with
      | nil => intro h; cases h
      | cons z L ih =>
        intro h
        simp only [List.map_cons, List.sum_cons]
        rcases List.mem_cons.1 h with rfl | h
        · omega
        · have := ih h; omega
    exact Nat.le_trans (key _ hy) hs
  have h1 := itS_sz hx.params
  have h2 := itS_sz hx.regs
  have h3 := packL_sumC (L := x.ops.map Fa.opS) (fun y hy => Nat.le_trans (hm y hy) (by omega))
  rw [List.length_map] at h3
  have h4 : (packS (x.ops.map Fa.opS)).size = _ := Fa.packS_size _
  have h5 := packL_sumC (L := [itS x.params, itS x.regs, packS (x.ops.map Fa.opS)]) (fun y hy => by
    simp only [List.mem_cons, List.not_mem_nil, or_false] at hy
    rcases hy with rfl | rfl | rfl
    · omega
    · omega
    · rw [h4]; unfold sumC at h3; omega)
  have h6 : (Fa.cdS x).size = _ := Fa.packS_size _
  simp only [sumC, List.map_cons, List.map_nil, List.sum_cons, List.sum_nil, List.length_cons, List.length_nil] at h5
  unfold sumC at h3
  omega
/-- a code whose string is not too long -/
structure Cdd.Gd (x : Cdd) : Prop where
  ok : x.Ok
  sz : (Fa.cdS x).size ≤ 100000000
theorem Cdd.Odd.gd {x : Cdd} (h : x.Odd) : x.Gd := by
  refine ⟨h.ok, ?_⟩
  have key : ∀ (L : List Opp), (∀ o ∈ L, o.Odd) → ((L.map Fa.opS).map ByteArray.size).sum ≤ 330 * L.length := by
    intro L
    induction L with
    | nil => intro _; simp
    | cons o L ih =>
      intro hL
      have ho := hL o (by simp)
      have h1 := opS_size ho.ok (Nat.le_trans ho.few (by decide)) (Nat.le_trans ho.sz (by decide))
      have h2 := ih (fun q hq => hL q (List.mem_cons_of_mem _ hq))
      have h3 := ho.few
      have h4 := ho.sz
      simp only [List.map_cons, List.sum_cons, List.length_cons]
      omega
  have h1 := key x.ops h.ops
  have h2 := h.few
  have := cdS_size h.ok (B := 330 * x.ops.length) (by omega) (fun o ho => ⟨Nat.le_trans (h.ops o ho).few (by decide), Nat.le_trans (h.ops o ho).sz (by decide)⟩) h1 (by omega)
  omega
theorem Cdd.Small.odd {x : Cdd} (h : x.Small) : x.Odd := ⟨h.ok, h.few, fun o ho => ⟨(h.ops o ho).ok, by have := (h.ops o ho).few; omega, (h.ops o ho).sz⟩⟩

/-! ### codes in a row -/
abbrev Rcd := Option Addr × Nat × Cdd
def encCd : Enc Rcd := ⟨fun y => [.int .i64 y.2.2.params, .int .i64 y.2.2.regs, .slice y.1 y.2.2.ops.length y.2.1], 3, fun _ => rfl, fun x v hv => by
  simp at hv
  rcases hv with rfl | rfl | rfl <;> rfl, by decide⟩
def Rcd.v (y : Rcd) : Value := .agg #[.int .i64 y.2.2.params, .int .i64 y.2.2.regs, .slice y.1 y.2.2.ops.length y.2.1]
theorem SlA.ad {α : Type} {E : Enc α} {d : Dice} {w w' : World} {v : Value} {L : List α} (h : SlA E (fun k => k ≠ d.D) w v L) (hl : AD d w w') : SlA E (fun k => k ≠ d.D) w' v L := h.blocksO (fun k hk hlt => hl.block k hlt hk)
theorem OpsA.ad {d : Dice} {w w' : World} {v : Value} {L : List Opp} (h : OpsA (fun k => k ≠ d.D) w v L) (hl : AD d w w') : OpsA (fun k => k ≠ d.D) w' v L := by
  obtain ⟨R, h1, h2, h3⟩ := h
  exact ⟨R, h1, h2.ad hl, fun r hr => (h3 r hr).ad hl⟩
theorem CdM.ad {d : Dice} {w w' : World} {v : Value} {x : Cdd} (h : CdM (fun k => k ≠ d.D) w v x) (hl : AD d w w') : CdM (fun k => k ≠ d.D) w' v x := by
  obtain ⟨p, c, h1, R, h2, h3, h4, h5⟩ := h
  exact ⟨p, c, h1, R, h2, h3.ad hl, fun r hr => (h4 r hr).ad hl, h5⟩
theorem CdM.away {d : Dice} {w : World} {v : Value} {x : Cdd} {B : Nat} (h : CdM (fun k => B ≤ k) w v x) (hD : d.D < B) : CdM (fun k => k ≠ d.D) w v x := by
  obtain ⟨p, c, h1, R, h2, h3, h4, h5⟩ := h
  exact ⟨p, c, h1, R, h2, h3.mono (fun k hk => by omega), fun r hr => (h4 r hr).mono (fun k hk => by omega), h5⟩
def cddS : Cdd := ⟨0, 0, [⟨0, 0, 0, 0, [], ⟨#[]⟩⟩]⟩
theorem cddS_small : cddS.Small := by
  have hz : InI 0 := by unfold InI; omega
  refine ⟨⟨hz, hz, fun o ho => ?_⟩, by decide, by decide, fun o ho => ?_⟩
  all_goals
    obtain rfl : o = ⟨0, 0, 0, 0, [], ⟨#[]⟩⟩ := List.mem_singleton.1 ho
  · exact ⟨hz, hz, hz, hz, fun n hn => by cases hn⟩
  · exact ⟨⟨hz, hz, hz, hz, fun n hn => by cases hn⟩, by decide, by decide⟩
/-- a code that dice made -/
def tyCm (d : Dice) : Ty (AD d) := ⟨{y : Rcd // y.2.2.Small}, ⟨⟨(none, 0, cddS), cddS_small⟩⟩, fun y => .agg #[.int .i64 y.1.2.2.params, .int .i64 y.1.2.2.regs, .slice y.1.1 y.1.2.2.ops.length y.1.2.1], fun y w => CdM (fun k => k ≠ d.D) w (Rcd.v y.1) y.1.2.2, fun _ _ _ hl h => h.ad hl⟩
theorem tyCm_f (d : Dice) (p : Option Addr) (c : Nat) (x : Cdd) (h : x.Small) : (tyCm d).f ⟨(p, c, x), h⟩ = .agg #[.int .i64 x.params, .int .i64 x.regs, .slice p x.ops.length c] := rfl
/-- a code that something was changed of -/
def tyCo (d : Dice) : Ty (AD d) := ⟨{y : Rcd // y.2.2.Odd}, ⟨⟨(none, 0, cddS), cddS_small.odd⟩⟩, fun y => .agg #[.int .i64 y.1.2.2.params, .int .i64 y.1.2.2.regs, .slice y.1.1 y.1.2.2.ops.length y.1.2.1], fun y w => OpsA (fun k => k ≠ d.D) w (.slice y.1.1 y.1.2.2.ops.length y.1.2.1) y.1.2.2.ops, fun _ _ _ hl h => h.ad hl⟩
theorem tyCo_f (d : Dice) (p : Option Addr) (c : Nat) (x : Cdd) (h : x.Odd) : (tyCo d).f ⟨(p, c, x), h⟩ = .agg #[.int .i64 x.params, .int .i64 x.regs, .slice p x.ops.length c] := rfl
/-- three codes -/
structure Three (d : Dice) (b : Nat) (w : World) (L : List Rcd) : Prop where
  len : L.length = 3
  at_ : CellsAt w b 0 (encCd.all L)
  lt : b < w.heap.size
  ne : b ≠ d.D
  each : ∀ y ∈ L, OpsA (fun k => k ≠ d.D) w (.slice y.1 y.2.2.ops.length y.2.1) y.2.2.ops ∧ y.2.2.Gd
theorem Three.ad {d : Dice} {b : Nat} {w w' : World} {L : List Rcd} (h : Three d b w L) (hl : AD d w w') : Three d b w' L :=
  ⟨h.len, fun j v hv => by rw [World.cell?_of_block (w := w) (hl.block b h.lt h.ne)]; exact h.at_ j v hv, Nat.lt_of_lt_of_le h.lt hl.size, h.ne, fun y hy => ⟨(h.each y hy).1.ad hl, (h.each y hy).2⟩⟩
def tyThree (d : Dice) : Ty (AD d) := ⟨{b : Nat // True}, ⟨⟨0, trivial⟩⟩, fun b => .slice (some ⟨b.1, 0, none⟩) 3 3, fun b w => ∃ L, Three d b.1 w L, fun _ _ _ hl h => by obtain ⟨L, h⟩ := h; exact ⟨L, h.ad hl⟩⟩
theorem tyThree_f (d : Dice) (b : Nat) (h : True) : (tyThree d).f ⟨b, h⟩ = .slice (some ⟨b, 0, none⟩) 3 3 := rfl
theorem three_mk {d : Dice} {W : World} {p1 p2 p3 : Option Addr} {c1 c2 c3 : Nat} {x1 x2 x3 : Cdd} (hd : DiceAt d W) (h1 : OpsA (fun k => k ≠ d.D) W (.slice p1 x1.ops.length c1) x1.ops) (h2 : OpsA (fun k => k ≠ d.D) W (.slice p2 x2.ops.length c2) x2.ops) (h3 : OpsA (fun k => k ≠ d.D) W (.slice p3 x3.ops.length c3) x3.ops) (g1 : x1.Gd) (g2 : x2.Gd) (g3 : x3.Gd) {P : Program} {t : TypeId} :
    relUpon P (AD d) (tyThree d) W (.ok (.value (.slice (some ⟨W.heap.size, 0, none⟩) 3 3)) (W.alloc (.cells #[.int .i64 x1.params, .int .i64 x1.regs, .slice p1 x1.ops.length c1, .int .i64 x2.params, .int .i64 x2.regs, .slice p2 x2.ops.length c2, .int .i64 x3.params, .int .i64 x3.regs, .slice p3 x3.ops.length c3] t))) := by
  have hlow := dcLow hd
  have had : AD d W (W.alloc (.cells #[.int .i64 x1.params, .int .i64 x1.regs, .slice p1 x1.ops.length c1, .int .i64 x2.params, .int .i64 x2.regs, .slice p2 x2.ops.length c2, .int .i64 x3.params, .int .i64 x3.regs, .slice p3 x3.ops.length c3] t)) := Dr.of_below (below_box W _) hlow
  refine ⟨had, ⟨W.heap.size, trivial⟩, rfl, [(p1, c1, x1), (p2, c2, x2), (p3, c3, x3)], rfl, cellsAt_alloc W (encCd.all [(p1, c1, x1), (p2, c2, x2), (p3, c3, x3)]) t, by rw [World.size_alloc]; exact Nat.lt_succ_self _, ?_, ?_⟩
  · intro e
    have := hlow.1
    simp only at e
    omega
  · intro y hy
    simp only [List.mem_cons, List.not_mem_nil, or_false] at hy
    rcases hy with rfl | rfl | rfl
    · exact ⟨h1.ad had, g1⟩
    · exact ⟨h2.ad had, g2⟩
    · exact ⟨h3.ad had, g3⟩
end Go.Proofs.YthikdkeanndidaaDoor
