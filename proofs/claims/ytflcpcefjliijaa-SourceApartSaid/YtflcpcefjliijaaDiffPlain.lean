/-
  PLAIN FACTS ON BYTES: how many bytes two texts have in common at their beginnings, and at their ends. No program, no world.
-/
import Derived.Lib.Strings
namespace Go.Proofs.Ytflcpcefjliijaa
namespace Plain

/-- how many bytes two lists have in common at their beginnings -/
def pre : List UInt8 → List UInt8 → Nat
  | x :: l, y :: m => if x = y then pre l m + 1 else 0
  | _, _ => 0

theorem pre_le_left : ∀ l m : List UInt8, pre l m ≤ l.length
  | [], _ => by simp [pre]
  | _ :: _, [] => by simp [pre]
  | x :: l, y :: m => by
    have := pre_le_left l m
    unfold pre
    split <;> simp <;> omega
theorem pre_le_right : ∀ l m : List UInt8, pre l m ≤ m.length
  | [], _ => by simp [pre]
  | _ :: _, [] => by simp [pre]
  | x :: l, y :: m => by
    have := pre_le_right l m
    unfold pre
    split <;> simp <;> omega
theorem pre_get : ∀ (l m : List UInt8) (j : Nat), j < pre l m → l[j]? = m[j]?
  | [], _, j, h => by simp [pre] at h
  | _ :: _, [], j, h => by simp [pre] at h
  | x :: l, y :: m, j, h => by
    unfold pre at h
    split at h
    · rename_i e
      cases j with
      | zero => simp [e]
      | succ j => simpa using pre_get l m j (by omega)
    · omega
theorem pre_stop : ∀ (l m : List UInt8), pre l m < l.length → pre l m < m.length → l[pre l m]? ≠ m[pre l m]?
  | [], _, h, _ => by simp at h
  | _ :: _, [], _, h => by simp at h
  | x :: l, y :: m, h1, h2 => by
    by_cases e : x = y
    · have ep : pre (x :: l) (y :: m) = pre l m + 1 := by rw [pre, if_pos e]
      rw [ep] at h1 h2 ⊢
      simpa using pre_stop l m (by simpa using h1) (by simpa using h2)
    · have ep : pre (x :: l) (y :: m) = 0 := by rw [pre, if_neg e]
      rw [ep]
      simpa using e
theorem pre_self_append (l m : List UInt8) : pre l (l ++ m) = l.length := by
  induction l with
  | nil => simp [pre]
  | cons x l ih => simp [pre, ih]

/-- the same of texts -/
def preB (a b : ByteArray) : Nat := pre a.data.toList b.data.toList
theorem preB_left (a b : ByteArray) : preB a b ≤ a.size := by simpa [preB] using pre_le_left a.data.toList b.data.toList
theorem preB_right (a b : ByteArray) : preB a b ≤ b.size := by simpa [preB] using pre_le_right a.data.toList b.data.toList
theorem get_list (a : ByteArray) (j : Nat) (h : j < a.size) : a.data.toList[j]? = some a[j] := by
  rw [List.getElem?_eq_getElem (by simpa using h)]; rfl
theorem preB_get (a b : ByteArray) (j : Nat) (h : j < preB a b) (h1 : j < a.size) (h2 : j < b.size) : (((a[j]).toNat : Int) == ((b[j]).toNat : Int)) = true := by
  have e := pre_get a.data.toList b.data.toList j h
  rw [get_list a j h1, get_list b j h2] at e
  rw [Option.some.inj e]
  simp
theorem preB_stop (a b : ByteArray) (h1 : preB a b < a.size) (h2 : preB a b < b.size) : (((a[preB a b]).toNat : Int) == ((b[preB a b]).toNat : Int)) = false := by
  have e := pre_stop a.data.toList b.data.toList (by simpa [preB] using h1) (by simpa [preB] using h2)
  change a.data.toList[preB a b]? ≠ b.data.toList[preB a b]? at e
  rw [get_list a _ h1, get_list b _ h2] at e
  rw [beq_eq_false_iff_ne]
  intro h
  apply e
  congr 1
  exact UInt8.toNat_inj.1 (by omega)

/-- how many bytes they have in common at their ends -/
def sufB (a b : ByteArray) : Nat := pre a.data.toList.reverse b.data.toList.reverse
theorem sufB_left (a b : ByteArray) : sufB a b ≤ a.size := by simpa [sufB] using pre_le_left a.data.toList.reverse b.data.toList.reverse
theorem sufB_right (a b : ByteArray) : sufB a b ≤ b.size := by simpa [sufB] using pre_le_right a.data.toList.reverse b.data.toList.reverse
theorem get_rev (a : ByteArray) (j : Nat) (h : j < a.size) : a.data.toList.reverse[j]? = some (a[a.size - 1 - j]'(by omega)) := by
  have hl : a.data.toList.length = a.size := by simp
  rw [List.getElem?_reverse (by omega), hl, get_list a _ (by omega)]
theorem sufB_get (a b : ByteArray) (j : Nat) (h : j < sufB a b) (h1 : j < a.size) (h2 : j < b.size) : (((a[a.size - 1 - j]'(by omega)).toNat : Int) == ((b[b.size - 1 - j]'(by omega)).toNat : Int)) = true := by
  have e := pre_get a.data.toList.reverse b.data.toList.reverse j h
  rw [get_rev a j h1, get_rev b j h2] at e
  rw [Option.some.inj e]
  simp
theorem sufB_stop (a b : ByteArray) (h1 : sufB a b < a.size) (h2 : sufB a b < b.size) : (((a[a.size - 1 - sufB a b]'(by omega)).toNat : Int) == ((b[b.size - 1 - sufB a b]'(by omega)).toNat : Int)) = false := by
  have e := pre_stop a.data.toList.reverse b.data.toList.reverse (by simpa [sufB] using h1) (by simpa [sufB] using h2)
  change a.data.toList.reverse[sufB a b]? ≠ b.data.toList.reverse[sufB a b]? at e
  rw [get_rev a _ h1, get_rev b _ h2] at e
  rw [beq_eq_false_iff_ne]
  intro h
  apply e
  congr 1
  exact UInt8.toNat_inj.1 (by omega)
end Plain
end Go.Proofs.Ytflcpcefjliijaa
