/-
  PLAIN: what stands in a bind's definition: the module's letter, two colons, the name.
-/
import Derived.Test.YtheigpiffdabnaaMdP
namespace Go.Proofs.Ytheigpiffdabnaa.Mds
open Go Go.RowKit Go.Maps
set_option linter.unusedVariables false

theorem x2_of {B : UInt8} {x1 x2 : ByteArray} (h : x2 = defB ⟨#[B]⟩ x1) (h1 : x1.size = 1) : x2.size = 4 ∧ (∀ h : 0 < x2.size, (x2[0]'h).toNat = B.toNat) ∧ x2.extract 1 x2.size = ⟨#[58, 58]⟩ ++ x1 := by
  have hs : x2.size = 4 := by
    subst h
    unfold defB
    rw [ByteArray.size_append, ByteArray.size_append, h1]
    rfl
  refine ⟨hs, fun hh => ?_, ?_⟩
  · subst h
    obtain ⟨⟨l⟩⟩ := x1
    rfl
  · rw [hs]
    subst h
    obtain ⟨⟨l⟩⟩ := x1
    match l, h1 with
    | [c], _ => rfl
end Go.Proofs.Ytheigpiffdabnaa.Mds
