/-
  LAWS: a slice of structs that came in, read as a list; over any program.
-/
import Derived.Test.YthikdkeanndidaaDoorBase
import Derived.Deep.SlicePairs
import Derived.Lib.SmallJoins
import Derived.ProofKit
namespace Go.Proofs.YthikdkeanndidaaDoor
open Go.ChangeShapes Go.WideShapes Go.RowKit Go.Deep
set_option linter.unusedVariables false

theorem cells_lit {w : World} {base : Nat} {a : Addr} {n : Nat} {cs : List Value} (hn : 0 < n) (h : w.cells? base a n = some cs) : a.spot = none := by
  obtain ⟨_, hl, hc⟩ := World.cells?_some h
  have h0 := hc 0 hn
  have : cs[0]? = some cs[0] := List.getElem?_eq_getElem (by omega)
  rw [this] at h0
  have := World.cell?_spot h0
  simpa [Addr.add] using this

/-- each element's cells are those of an x of α, of which R holds with its reading -/
theorem open_structs {H : Type} {enc : TypeId × Value → H} {P : Program} {w : World} {base : Nat} {spare : Nat → Bool} {held : Bool} {α : Type} [Inhabited α] (E : Enc α) (R : α → DataW H → Prop) {t e : TypeId} {fuel : Nat} {cs : List Value} {X : DataW H × List MemPlace}
    (ht : P.underlying t = some (.slice e)) (ce : P.cellsOf e = E.size)
    (dec : ∀ n cs y, cs.length = E.size → DataW.trod enc P w base spare held n e cs = some y → ∃ x : α, cs = E.cells x ∧ R x y.1)
    (h : DataW.trod enc P w base spare held fuel t cs = some X) :
    ∃ (L : List α) (p : Option Addr) (cap : Nat), cs = [.slice p L.length cap] ∧ SlIs E w (.slice p L.length cap) L ∧ (p = none → cap = 0) ∧
      ((L = [] ∧ X.1 = .nil) ∨ ∃ (D : Nat → DataW H) (sp : List (DataW H)), X.1 = .slice ((List.range L.length).map D) sp ∧ ∀ i (hi : i < L.length), R L[i] (D i)) := by
  rcases open_slice ht h with ⟨rfl, rfl⟩ | ⟨a, len, cap, m, n, D, Pl, rfl, hb, hl, hm, hmm, rfl, hx⟩
  · exact ⟨[], none, 0, rfl, SlIs.isNil E w, fun _ => rfl, .inl ⟨rfl, rfl⟩⟩
  · have hlm : len ≤ m := by rw [hmm]; split <;> omega
    have each : ∀ i, i < len → ∃ x : α, (∀ k v, (E.cells x)[k]? = some v → w.cell? ((a.add (i * E.size)).add k) = some v) ∧ R x (D i) := by
      intro i hi
      obtain ⟨cs', h1, h2⟩ := hx i (by omega)
      rw [ce] at h1
      obtain ⟨_, hlen, hcell⟩ := World.cells?_some h1
      obtain ⟨x, e, hr⟩ := dec _ _ _ hlen h2
      refine ⟨x, fun k v hk => ?_, hr⟩
      · have hlt : k < (E.cells x).length := (List.getElem?_eq_some_iff.1 hk).1
        rw [E.len] at hlt
        rw [hcell k hlt, e]
        exact hk
    obtain ⟨q, hq⟩ := choose_lt each
    refine ⟨(List.range len).map q, some a, cap, by simp, ⟨some a, cap, by simp, by simpa using hl, hm, fun hpos => ?_⟩, (fun h => by cases h), .inr ⟨D, _, by simp only [List.length_map, List.length_range]; rfl, fun i hi => ?_⟩⟩
    · have hp : 0 < len := by simpa using hpos
      obtain ⟨b, off, spot⟩ := a
      have hspot : spot = none := by
        obtain ⟨cs', h1, _⟩ := hx 0 (by omega)
        rw [ce] at h1
        have := cells_lit E.pos h1
        simpa [Addr.add] using this
      subst hspot
      refine ⟨b, off, rfl, ?_⟩
      have key : ∀ k, k ≤ len → ∀ j v, (E.all ((List.range k).map q))[j]? = some v → w.cell? ⟨b, off + j, none⟩ = some v := by
        intro k
        induction k with
        | zero => intro _ j v hv; simp [Enc.all] at hv
        | succ k ih =>
          intro hk j v hv
          rw [List.range_succ, List.map_append, E.all_append, List.getElem?_append] at hv
          split at hv
          · exact ih (by omega) j v hv
          · rename_i hj
            rw [E.all_length] at hj hv
            simp only [List.length_map, List.length_range, List.map_cons, List.map_nil] at hj hv
            rw [E.all_cons, E.all_nil, List.append_nil] at hv
            have := (hq k (by omega)).1 _ _ hv
            rw [add_lit, add_lit] at this
            rwa [show off + k * E.size + (j - k * E.size) = off + j by omega] at this
      exact key len (Nat.le_refl _)
    · have hi' : i < len := by simpa using hi
      have := (hq i hi').2
      simpa using this
end Go.Proofs.YthikdkeanndidaaDoor
