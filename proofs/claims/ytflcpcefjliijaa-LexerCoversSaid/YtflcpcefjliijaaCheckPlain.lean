/-
  PLAIN FACTS: which sources are valid. No program, no world.
-/
import Derived.Test.YtflcpcefjliijaaNamePlain
import Derived.Test.YtflcpcefjliijaaSrcs
import GoSem.Op.String
namespace Go.Proofs.Ytflcpcefjliijaa
set_option linter.unusedVariables false

/-- the order of strings -/
def ltS (a b : ByteArray) : Bool := Op.bytesLess a.toList b.toList

theorem less_irrefl : ∀ x : List UInt8, Op.bytesLess x x = false
  | [] => rfl
  | a :: x => by simp [Op.bytesLess, less_irrefl x]
theorem less_trans : ∀ x y z : List UInt8, Op.bytesLess x y = true → Op.bytesLess y z = true → Op.bytesLess x z = true
  | [], [], _, h, _ => by simp [Op.bytesLess] at h
  | _ :: _, [], _, h, _ => by simp [Op.bytesLess] at h
  | [], _ :: _, [], _, h => by simp [Op.bytesLess] at h
  | [], _ :: _, _ :: _, _, _ => by simp [Op.bytesLess]
  | _ :: _, _ :: _, [], _, h => by simp [Op.bytesLess] at h
  | a :: x, b :: y, c :: z, h, g => by
    simp only [Op.bytesLess, Bool.or_eq_true, decide_eq_true_eq, Bool.and_eq_true, beq_iff_eq] at h g ⊢
    rcases h with h | ⟨h, h'⟩ <;> rcases g with g | ⟨g, g'⟩
    · exact Or.inl (UInt8.lt_trans h g)
    · subst g; exact Or.inl h
    · subst h; exact Or.inl g
    · subst h; subst g; exact Or.inr ⟨rfl, less_trans x y z h' g'⟩
theorem less_total : ∀ x y : List UInt8, (!Op.bytesLess x y) = (Op.bytesLess y x || y == x)
  | [], [] => by simp [Op.bytesLess]
  | [], _ :: _ => by simp [Op.bytesLess]
  | _ :: _, [] => by simp [Op.bytesLess]
  | a :: x, b :: y => by
    have ih := less_total x y
    by_cases e : a = b
    · subst e
      simpa [Op.bytesLess] using ih
    · have e' : ¬ b = a := fun h => e h.symm
      have hn : a.toNat ≠ b.toNat := fun h => e (UInt8.toNat_inj.1 h)
      by_cases hl : a < b
      · have : ¬ b < a := by rw [UInt8.lt_iff_toNat_lt] at *; omega
        simp [Op.bytesLess, e', hl, this]
      · have : b < a := by rw [UInt8.lt_iff_toNat_lt] at *; omega
        simp [Op.bytesLess, e, hl, this]

def permB (x : Src) : Bool := nameB x.1 && decide (x.2.size ≤ 20000)
def okSrc (L : List Src) (j : Nat) : Bool := permB (L.getD j empty2) && (decide (j = 0) || ltS (L.getD (j - 1) empty2).1 (L.getD j empty2).1)
def validTo (L : List Src) : Nat → Bool
  | 0 => true
  | j + 1 => validTo L j && okSrc L j
def validB (L : List Src) : Bool := validTo L L.length
/-- the error of Check -/
def chk (L : List Src) : Int := if validB L = true then 0 else 1

theorem validTo_bad (L : List Src) (j : Nat) (h : okSrc L j = false) : ∀ k, j < k → validTo L k = false
  | 0, hk => by omega
  | k + 1, hk => by
    by_cases e : j = k
    · subst e; simp [validTo, h]
    · simp [validTo, validTo_bad L j h k (by omega)]
theorem chk_bad (L : List Src) (j : Nat) (h : okSrc L j = false) (hj : j < L.length) : chk L = 1 := by
  unfold chk validB
  rw [validTo_bad L j h L.length hj]
  rfl
theorem chk_good (L : List Src) (h : validTo L L.length = true) : chk L = 0 := by
  unfold chk validB
  rw [if_pos h]
theorem validTo_step (L : List Src) (j : Nat) (h : validTo L j = true) (g : okSrc L j = true) : validTo L (j + 1) = true := by simp [validTo, h, g]
end Go.Proofs.Ytflcpcefjliijaa
