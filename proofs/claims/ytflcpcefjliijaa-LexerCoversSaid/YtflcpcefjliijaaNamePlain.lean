/-
  PLAIN FACTS: which names are permitted. No program, no world.
-/
import Derived.Lib.Strings
namespace Go.Proofs.Ytflcpcefjliijaa
set_option linter.unusedVariables false

def startsI (c : Int) : Bool := decide ((65 ≤ c ∧ c ≤ 90) ∨ (97 ≤ c ∧ c ≤ 122) ∨ c = 95)
def digitI (c : Int) : Bool := decide (48 ≤ c ∧ c ≤ 57)
def byteI (s : ByteArray) (j : Nat) : Int := if h : j < s.size then ((s[j]).toNat : Int) else 0
theorem byteI_eq (s : ByteArray) (j : Nat) (h : j < s.size) : byteI s j = ((s[j]).toNat : Int) := by unfold byteI; rw [dif_pos h]
def okAt (s : ByteArray) (j : Nat) : Bool := startsI (byteI s j) || (decide (0 < j) && digitI (byteI s j))
def goodTo (s : ByteArray) : Nat → Bool
  | 0 => true
  | j + 1 => goodTo s j && okAt s j
def nameB (s : ByteArray) : Bool := decide (0 < s.size ∧ s.size ≤ 40) && goodTo s s.size

theorem goodTo_bad (s : ByteArray) (j : Nat) (h : okAt s j = false) : ∀ k, j < k → goodTo s k = false
  | 0, hk => by omega
  | k + 1, hk => by
    by_cases e : j = k
    · subst e; simp [goodTo, h]
    · simp [goodTo, goodTo_bad s j h k (by omega)]
theorem nameB_bad (s : ByteArray) (j : Nat) (h : okAt s j = false) (hj : j < s.size) : nameB s = false := by
  unfold nameB
  rw [goodTo_bad s j h s.size hj]
  simp
theorem nameB_len (s : ByteArray) (h : ¬ (0 < s.size ∧ s.size ≤ 40)) : nameB s = false := by
  unfold nameB
  rw [decide_eq_false h]
  simp
theorem nameB_good (s : ByteArray) (h : 0 < s.size ∧ s.size ≤ 40) (g : goodTo s s.size = true) : nameB s = true := by
  unfold nameB
  rw [decide_eq_true h, g]
  rfl
theorem nameB_size (s : ByteArray) (h : nameB s = true) : 0 < s.size ∧ s.size ≤ 40 := by
  unfold nameB at h
  simp at h
  omega
theorem goodTo_step (s : ByteArray) (j : Nat) (h : goodTo s j = true) (g : okAt s j = true) : goodTo s (j + 1) = true := by simp [goodTo, h, g]
theorem digit_not_starts (c : Int) (h : digitI c = true) : startsI c = false := by
  simp [digitI, startsI] at *
  omega
/-- the reference's test of a byte -/
theorem okAt_ref (s : ByteArray) (j : Nat) (h0 : digitI (byteI s 0) = false) : okAt s j = (startsI (byteI s j) || digitI (byteI s j)) := by
  unfold okAt
  cases j with
  | zero => simp [h0]
  | succ j => simp
theorem nameB_digit (s : ByteArray) (h : digitI (byteI s 0) = true) (hs : 0 < s.size) : nameB s = false :=
  nameB_bad s 0 (by unfold okAt; rw [digit_not_starts _ h]; simp) hs
end Go.Proofs.Ytflcpcefjliijaa
