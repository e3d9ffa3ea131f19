/-
  SOURCES IN MEMORY: a slice value that reads as a list of modules (name and text); source.splice makes a new list.
-/
import Derived.Test.YtflcpcefjliijaaCopyN
import Derived.Test.YtflcpcefjliijaaBase
import Derived.Test.YtflcpcefjliijaaChecked
import Derived.WalkKit
import Derived.WalkSpells
import Derived.WalkLawsBesides
import Derived.Deep.QuietTactic
import Derived.BigQuiet
import Derived.Handy
import Derived.Lib.Hide
namespace Go.Proofs.Ytflcpcefjliijaa
open Go.RowKit
set_option linter.unusedVariables false

abbrev Src := ByteArray × ByteArray
/-- the cells that a list of modules takes -/
def srcCells (L : List Src) : List Value := L.flatMap fun x => [.string x.1, .string x.2]
theorem srcCells_length (L : List Src) : (srcCells L).length = L.length * 2 := by
  induction L with
  | nil => rfl
  | cons x L ih => simp [srcCells] at ih ⊢; omega
theorem srcCells_append (L M : List Src) : srcCells (L ++ M) = srcCells L ++ srcCells M := by simp [srcCells]
theorem srcCells_name (L : List Src) (i : Nat) (h : i < L.length) : (srcCells L)[2 * i]? = some (.string L[i].1) := by
  induction L generalizing i with
  | nil => simp at h
  | cons x L ih =>
    cases i with
    | zero => simp [srcCells]
    | succ i =>
      have := ih i (by simpa using h)
      rw [show 2 * (i + 1) = 2 * i + 2 by omega]
      simpa [srcCells] using this
theorem srcCells_text (L : List Src) (i : Nat) (h : i < L.length) : (srcCells L)[2 * i + 1]? = some (.string L[i].2) := by
  induction L generalizing i with
  | nil => simp at h
  | cons x L ih =>
    cases i with
    | zero => simp [srcCells]
    | succ i =>
      have := ih i (by simpa using h)
      rw [show 2 * (i + 1) + 1 = (2 * i + 1) + 2 by omega]
      simpa [srcCells] using this
theorem srcCells_one (L : List Src) : ∀ v ∈ srcCells L, v.oneCell' = true := by
  intro v hv
  simp [srcCells] at hv
  obtain ⟨a, b, _, h | h⟩ := hv <;> subst h <;> rfl

/-- v is a slice that reads as the modules L in the world w -/
def SrcIs (w : World) (v : Value) (L : List Src) : Prop :=
  ∃ p cap, v = .slice p L.length cap ∧ L.length ≤ cap ∧ cap ≤ maxLen ∧ (0 < L.length → ∃ b off, p = some ⟨b, off, none⟩ ∧ CellsAt w b off (srcCells L))

theorem SrcIs.isNil (w : World) : SrcIs w (.slice none 0 0) [] := ⟨_, _, rfl, Nat.le_refl _, Nat.zero_le _, fun h => absurd h (by simp)⟩
theorem SrcIs.below {w w' : World} {v : Value} {L : List Src} (h : SrcIs w v L) (hb : Below w.heap.size w w') : SrcIs w' v L := by
  obtain ⟨p, cap, h1, h2, h3, h4⟩ := h
  exact ⟨p, cap, h1, h2, h3, fun h0 => by obtain ⟨b, off, e, hc⟩ := h4 h0; exact ⟨b, off, e, hc.below hb⟩⟩

theorem info24 : (Try.prog.info? 35).map (fun i => (i.zero, i.size, i.bytes)) = some (some (.agg #[.string ⟨#[]⟩, .string ⟨#[]⟩]), 2, 32) := by kernel_rfl
theorem size24 : (Try.prog.info? 35).map (·.size) = some 2 := by kernel_rfl
theorem elem22 : Try.prog.underlying 28 = some (.slice (Try.prog.elem 28)) := by kernel_rfl
theorem sizeElem22 (w : World) : (sizeOf (Try.prog.elem 28)).run Try.prog w = .ok 2 w := by kernel_rfl


/-- l[k:] -/
theorem slice_from (p : Option Addr) (n cap k : Nat) (hk : k ≤ n) (hn : n ≤ cap) : ∃ p', (∀ u : World, (Instr.slice 28 (.slice p n cap) (some (.int .i64 (k : Int))) none none).run Try.prog u = .ok (.slice p' (n - k) (cap - k)) u) ∧
    (k < n → ∀ b off, p = some ⟨b, off, none⟩ → p' = some ⟨b, off + 2 * k, none⟩) := by
  refine ⟨if cap = k then p else p.map (·.add (k * 2)), fun u => ?_, fun h b off e => ?_⟩
  · rw [run_slice_l u 28 p n cap elem22 .i64 (k : Int) (by omega) (by omega), sizeElem22]
    simp only [Result.andThen, sliced, Int.toNat_natCast]
  · subst e
    rw [if_neg (by omega)]
    simp [add_lit, Nat.mul_comm]
/-- l[:k] -/
theorem slice_upto (p : Option Addr) (n cap k : Nat) (hk : k ≤ cap) : ∃ p', (∀ u : World, (Instr.slice 28 (.slice p n cap) none (some (.int .i64 (k : Int))) none).run Try.prog u = .ok (.slice p' k cap) u) ∧
    (∀ b off, p = some ⟨b, off, none⟩ → p' = some ⟨b, off, none⟩) := by
  refine ⟨if cap = 0 then p else p.map (·.add (0 * 2)), fun u => ?_, fun b off e => ?_⟩
  · rw [run_slice_h u 28 p n cap elem22 .i64 (k : Int) (by omega) (by omega), sizeElem22]
    simp only [Result.andThen, sliced, Int.toNat_natCast, Nat.sub_zero]
  · subst e
    simp [add_lit]

theorem srcCells_take (L : List Src) (k : Nat) : srcCells (L.take k) = (srcCells L).take (2 * k) := by
  induction L generalizing k with
  | nil => simp [srcCells]
  | cons x L ih =>
    cases k with
    | zero => simp [srcCells]
    | succ k =>
      have := ih k
      rw [show 2 * (k + 1) = 2 * k + 2 by omega]
      simp [srcCells] at this ⊢
      exact this
theorem srcCells_drop (L : List Src) (k : Nat) : srcCells (L.drop k) = (srcCells L).drop (2 * k) := by
  induction L generalizing k with
  | nil => simp [srcCells]
  | cons x L ih =>
    cases k with
    | zero => simp [srcCells]
    | succ k =>
      have := ih k
      rw [show 2 * (k + 1) = 2 * k + 2 by omega]
      simp [srcCells] at this ⊢
      exact this
theorem CellsAt.take {w : World} {b off : Nat} {L : List Src} (h : CellsAt w b off (srcCells L)) (k : Nat) : CellsAt w b off (srcCells (L.take k)) := by
  intro j v hv
  rw [srcCells_take, List.getElem?_take] at hv
  split at hv
  · exact h j v hv
  · cases hv
theorem CellsAt.drop {w : World} {b off : Nat} {L : List Src} (h : CellsAt w b off (srcCells L)) (k : Nat) : CellsAt w b (off + 2 * k) (srcCells (L.drop k)) := by
  intro j v hv
  rw [srcCells_drop, List.getElem?_drop] at hv
  have := h (2 * k + j) v hv
  rwa [show off + (2 * k + j) = off + 2 * k + j by omega] at this

def empty2 : Src := (ByteArray.empty, ByteArray.empty)
theorem CellsAt.name {w : World} {b off : Nat} {L : List Src} (h : CellsAt w b off (srcCells L)) (j : Nat) (hj : j < L.length) : w.cell? ⟨b, off + j * 2, none⟩ = some (.string (L.getD j empty2).1) := by
  have := h _ _ (srcCells_name L j hj)
  rw [Nat.mul_comm] at this
  simpa [List.getD, List.getElem?_eq_getElem hj] using this
theorem CellsAt.text {w : World} {b off : Nat} {L : List Src} (h : CellsAt w b off (srcCells L)) (j : Nat) (hj : j < L.length) : w.cell? ⟨b, off + j * 2 + 1, none⟩ = some (.string (L.getD j empty2).2) := by
  have := h _ _ (srcCells_text L j hj)
  rw [Nat.mul_comm] at this
  simpa [List.getD, List.getElem?_eq_getElem hj, Nat.add_assoc] using this
/-- a slice that has an element lies somewhere -/
theorem SrcIs.lies {w : World} {p : Option Addr} {n cap : Nat} {L : List Src} (h : SrcIs w (.slice p n cap) L) : n = L.length ∧ n ≤ cap ∧ cap ≤ maxLen ∧ (0 < n → ∃ b off, p = some ⟨b, off, none⟩ ∧ CellsAt w b off (srcCells L)) := by
  obtain ⟨p', cap', e, h1, h2, h3⟩ := h
  simp only [Value.slice.injEq] at e
  obtain ⟨rfl, rfl, rfl⟩ := e
  exact ⟨rfl, h1, h2, h3⟩
/-- a list of modules whose strings fit -/
def Fits (L : List Src) : Prop := ∀ x ∈ L, x.1.size ≤ maxLen ∧ x.2.size ≤ maxLen
theorem Fits.at {L : List Src} (h : Fits L) (j : Nat) (hj : j < L.length) : (L.getD j empty2).1.size ≤ maxLen ∧ (L.getD j empty2).2.size ≤ maxLen := by
  have e : L.getD j empty2 = L[j] := by simp [List.getD, List.getElem?_eq_getElem hj]
  rw [e]
  exact h _ (List.getElem_mem hj)

end Go.Proofs.Ytflcpcefjliijaa
