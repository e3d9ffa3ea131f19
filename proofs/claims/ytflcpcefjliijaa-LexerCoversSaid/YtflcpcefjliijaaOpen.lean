/-
  HOW THE ARGUMENTS READ: a list of modules, a module, an edit.
-/
import Derived.Test.YtflcpcefjliijaaAgree
import Derived.Deep.SlicePairs
import Derived.Lib.SmallJoins
import Derived.ProofKit
namespace Go.Proofs.Ytflcpcefjliijaa
open Go.ChangeShapes Go.WideShapes Go.RowKit Go.Deep
set_option linter.unusedVariables false

theorem cells24 : Try.prog.cellsOf 35 = 2 := by kernel_rfl

set_option maxRecDepth 100000 in
theorem open_srcs {H : Type} {enc : TypeId × Value → H} {W : World} {v : Value} {d : DataW H} {p : List MemPlace} {r : Reach} {b0 : Nat} (hv : Value.okWide Try.prog W r b0 28 v) (h : DataW.Trod enc Try.prog W 0 (fun _ => true) true 28 v d p) :
    ∃ (L : List Src) (p' : Option Addr) (cap : Nat), v = .slice p' L.length cap ∧ SrcIs W v L ∧ Fits L ∧ (p' = none → cap = 0) := by
  obtain ⟨a0, len, cap, rfl⟩ := okWide_slice Try.underlying28 hv
  obtain ⟨fuel, hf⟩ := h
  rcases open_slice_pairs Try.underlying28 Try.underlying35 cells24 rfl rfl (by kernel_rfl) (by kernel_rfl) hf with ⟨hcs, _⟩ | ⟨a, l, c, m, n, V0, V1, D0, D1, P0, P1, hcs, _, hl, hm, hmm, _, hx⟩
  · simp [Value.cells] at hcs
    obtain ⟨rfl, rfl, rfl⟩ := hcs
    exact ⟨[], none, 0, rfl, SrcIs.isNil W, fun x hx => by simp at hx, fun _ => rfl⟩
  · simp [Value.cells] at hcs
    obtain ⟨rfl, rfl, rfl⟩ := hcs
    simp at hmm
    subst hmm
    have each : ∀ i, i < m → ∃ q : Src, V0 i = .string q.1 ∧ V1 i = .string q.2 ∧ q.1.size ≤ maxLen ∧ q.2.size ≤ maxLen := by
      intro i hi
      obtain ⟨_, _, h0, h1⟩ := hx i hi
      obtain ⟨s0, e0, _, w0⟩ := DataW.trod_string Try.underlying9 h0
      obtain ⟨s1, e1, _, w1⟩ := DataW.trod_string Try.underlying9 h1
      simp only [List.cons.injEq, and_true] at e0 e1
      exact ⟨(s0, s1), e0, e1, w0, w1⟩
    obtain ⟨q, hq⟩ := choose_lt each
    refine ⟨(List.range len).map q, some a, m, by simp, ⟨some a, m, by simp, by simpa using hl, hm, fun hpos => ?_⟩, ?_, fun h => by cases h⟩
    · obtain ⟨b, off, spot⟩ := a
      have h0 := (hx 0 (by simp at hpos; omega)).1
      have hspot : spot = none := by have := World.cell?_spot h0; simpa [Addr.add] using this
      subst hspot
      refine ⟨b, off, rfl, ?_⟩
      intro j v hv
      have key : ∀ k, k ≤ len → ∀ j v, (srcCells ((List.range k).map q))[j]? = some v → W.cell? ⟨b, off + j, none⟩ = some v := by
        intro k
        induction k with
        | zero => intro _ j v hv; simp [srcCells] at hv
        | succ k ih =>
          intro hk j v hv
          rw [List.range_succ, List.map_append, srcCells_append, List.getElem?_append] at hv
          split at hv
          · exact ih (by omega) j v hv
          · rename_i hj
            rw [srcCells_length] at hj hv
            simp at hj hv
            obtain ⟨g0, g1, _, _⟩ := hx k (by omega)
            obtain ⟨q0, q1, _, _⟩ := hq k (by omega)
            rw [add_lit] at g0 g1
            have hlt : j - k * 2 < 2 := by
              have := (List.getElem?_eq_some_iff.1 hv).1
              simpa [srcCells] using this
            by_cases e : j = k * 2
            · subst e
              simp [srcCells] at hv
              rw [g0, q0, ← hv]
            · have e1 : j = k * 2 + 1 := by omega
              subst e1
              simp [srcCells, Nat.add_sub_cancel_left] at hv
              rw [g1, q1, ← hv]
      exact key len (Nat.le_refl _) j v hv
    · intro x hx'
      obtain ⟨i, hi, rfl⟩ := List.mem_map.1 hx'
      have hi' := List.mem_range.1 hi
      obtain ⟨_, _, w0, w1⟩ := hq i (by omega)
      exact ⟨w0, w1⟩
end Go.Proofs.Ytflcpcefjliijaa
