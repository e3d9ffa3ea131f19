/-
  PLAIN FACTS: the order of strings. No program, no world.
-/
import Derived.Test.YtcplhnpblpmalaaBase
import GoSem.Op.String
namespace Go.Proofs.Ytcplhnpblpmalaa.Idn
open Go
set_option linter.unusedVariables false

/-- the order of strings -/
def ltS (a b : ByteArray) : Bool := Op.bytesLess a.toList b.toList

theorem less_irrefl : ∀ x : List UInt8, Op.bytesLess x x = false
  | [] => rfl
  | a :: x => by simp [Op.bytesLess, less_irrefl x]
theorem less_trans : ∀ x y z : List UInt8, Op.bytesLess x y = true → Op.bytesLess y z = true → Op.bytesLess x z = true
  | [], [], _, h, _ => by simp [Op.bytesLess] at h
  | _ :: _, [], _, h, _ => by simp [Op.bytesLess] at h
  | [], _ :: _, [], _, h => by simp [Op.bytesLess] at h
  | [], _ :: _, _ :: _, _, _ => by simp [Op.bytesLess]
  | _ :: _, _ :: _, [], _, h => by simp [Op.bytesLess] at h
  | a :: x, b :: y, c :: z, h, g => by
    simp only [Op.bytesLess, Bool.or_eq_true, decide_eq_true_eq, Bool.and_eq_true, beq_iff_eq] at h g ⊢
    rcases h with h | ⟨h, h'⟩ <;> rcases g with g | ⟨g, g'⟩
    · exact Or.inl (UInt8.lt_trans h g)
    · subst g; exact Or.inl h
    · subst h; exact Or.inl g
    · subst h; subst g; exact Or.inr ⟨rfl, less_trans x y z h' g'⟩
theorem less_total : ∀ x y : List UInt8, (!Op.bytesLess x y) = (Op.bytesLess y x || y == x)
  | [], [] => by simp [Op.bytesLess]
  | [], _ :: _ => by simp [Op.bytesLess]
  | _ :: _, [] => by simp [Op.bytesLess]
  | a :: x, b :: y => by
    have ih := less_total x y
    by_cases e : a = b
    · subst e
      simpa [Op.bytesLess] using ih
    · have e' : ¬ b = a := fun h => e h.symm
      have hn : a.toNat ≠ b.toNat := fun h => e (UInt8.toNat_inj.1 h)
      by_cases hl : a < b
      · have : ¬ b < a := by rw [UInt8.lt_iff_toNat_lt] at *; omega
        simp [Op.bytesLess, e', hl, this]
      · have : b < a := by rw [UInt8.lt_iff_toNat_lt] at *; omega
        simp [Op.bytesLess, e, hl, this]
end Go.Proofs.Ytcplhnpblpmalaa.Idn
