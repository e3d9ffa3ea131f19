/-
  LAWS: strings in a row.
-/
import Derived.Test.YthikdkeanndidaaDoorFaD
import Derived.Test.YthikdkeanndidaaDoorLw
import Derived.BigQuiet
namespace Go.Proofs.YthikdkeanndidaaDoor
open Go Go.RowKit
set_option linter.unusedVariables false
set_option linter.unusedSimpArgs false

/-- strings in a row -/
def encN : Enc ByteArray := ⟨fun s => [.string s], 1, fun _ => rfl, fun x v hv => by simp at hv; subst hv; rfl, by decide⟩
theorem SlIs.strAt {w : World} {p : Option Addr} {n c : Nat} {L : List ByteArray} (h : SlIs encN w (.slice p n c) L) : n = L.length ∧ n ≤ maxLen ∧ ∀ j, (hj : j < L.length) → ∃ (b off : Nat), p = some ⟨b, off, none⟩ ∧ w.cell? ⟨b, off + j, none⟩ = some (.string L[j]) := by
  obtain ⟨hn, h2, h3, h4⟩ := h.lies
  refine ⟨by omega, by omega, fun j hj => ?_⟩
  obtain ⟨b, off, e, hc⟩ := h4 (by omega)
  have := hc.elem j hj 0 (by decide) _ rfl
  exact ⟨b, off, e, by simpa [encN] using this⟩
end Go.Proofs.YthikdkeanndidaaDoor
