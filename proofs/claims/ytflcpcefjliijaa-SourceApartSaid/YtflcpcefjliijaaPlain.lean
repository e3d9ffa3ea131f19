/-
  PLAIN FACTS ON BYTES: the line and the column of a place of a text. No program, no world.
-/
import Derived.Lib.LastIndexByte
import Derived.Lib.Bytealg
import Derived.Lib.Strings
namespace Go.Proofs.Ytflcpcefjliijaa
namespace Plain

/-- how many line feeds lie in the first k bytes, plus 1 -/
def lineAt (s : ByteArray) (k : Nat) : Int := ((s.data.toList.take k).count 10 : Nat) + 1
/-- how many bytes lie between the last of these (or the beginning) and the place, plus 1 -/
def colAt (s : ByteArray) (k : Nat) : Int := (k : Int) - Lib.lastIdx s 10 k

theorem lastIdx_bounds (s : ByteArray) (c : Int) (k : Nat) : -1 ≤ Lib.lastIdx s c k ∧ Lib.lastIdx s c k < k := by
  induction k with
  | zero => simp [Lib.lastIdx]
  | succ k ih =>
    unfold Lib.lastIdx
    split <;> omega

theorem lineAt_zero (s : ByteArray) : lineAt s 0 = 1 := by simp [lineAt]
theorem colAt_zero (s : ByteArray) : colAt s 0 = 1 := by simp [colAt, Lib.lastIdx]
theorem lineAt_bounds (s : ByteArray) (k : Nat) : 1 ≤ lineAt s k ∧ lineAt s k ≤ k + 1 := by
  have h1 := List.count_le_length (a := (10 : UInt8)) (l := s.data.toList.take k)
  have h2 := List.length_take_le k s.data.toList
  unfold lineAt
  omega
theorem colAt_bounds (s : ByteArray) (k : Nat) : 1 ≤ colAt s k ∧ colAt s k ≤ k + 1 := by
  have := lastIdx_bounds s 10 k
  unfold colAt
  omega

theorem take_snoc (s : ByteArray) (k : Nat) (h : k < s.size) : s.data.toList.take (k + 1) = s.data.toList.take k ++ [s[k]] := by
  rw [List.take_succ_eq_append_getElem (by simpa using h)]; rfl
theorem byteBang (s : ByteArray) (j : Nat) (hj : j < s.size) : s.data[j]! = s[j] := by
  rw [getElem!_pos s.data j (by simpa using hj)]; rfl

theorem lineAt_hit (s : ByteArray) (k : Nat) (h : k < s.size) (hc : (((s[k]).toNat : Int) == 10) = true) : lineAt s (k + 1) = lineAt s k + 1 := by
  have e : s[k] = 10 := by
    apply UInt8.toNat_inj.1
    have := beq_iff_eq.1 hc
    show (s[k]).toNat = 10
    omega
  unfold lineAt
  rw [take_snoc s k h, List.count_append, e]
  simp
theorem lineAt_miss (s : ByteArray) (k : Nat) (h : k < s.size) (hc : (((s[k]).toNat : Int) == 10) = false) : lineAt s (k + 1) = lineAt s k := by
  have e : s[k] ≠ 10 := by
    intro e
    rw [e] at hc
    simp at hc
  unfold lineAt
  rw [take_snoc s k h, List.count_append, List.count_singleton, if_neg (by simpa using e)]
  simp
theorem colAt_hit (s : ByteArray) (k : Nat) (h : k < s.size) (hc : (((s[k]).toNat : Int) == 10) = true) : colAt s (k + 1) = 1 := by
  unfold colAt
  rw [Lib.lastIdx_hit s 10 k (by rw [byteBang s k h]; exact beq_iff_eq.1 hc)]
  omega
theorem colAt_miss (s : ByteArray) (k : Nat) (h : k < s.size) (hc : (((s[k]).toNat : Int) == 10) = false) : colAt s (k + 1) = colAt s k + 1 := by
  unfold colAt
  rw [Lib.lastIdx_miss s 10 k (by rw [byteBang s k h]; exact fun e => by simp [e] at hc)]
  omega

/-- the first k bytes alone have the same last line feed -/
theorem lastIdx_part (s : ByteArray) (c : Int) (k : Nat) (hk : k ≤ s.size) : ∀ j, j ≤ k → Lib.lastIdx (s.extract 0 k) c j = Lib.lastIdx s c j := by
  intro j
  induction j with
  | zero => intro _; rfl
  | succ j ih =>
    intro hj
    have hs : (s.extract 0 k).size = k := by rw [ByteArray.size_extract]; omega
    have e : (s.extract 0 k).data[j]! = s.data[j]! := by
      rw [byteBang (s.extract 0 k) j (by omega), byteBang s j (by omega)]
      simp [ByteArray.getElem_extract]
    unfold Lib.lastIdx
    rw [e, ih (by omega)]
theorem count_part (s : ByteArray) (k : Nat) : Lib.countByte (s.extract 0 k).data.toList 10 = (s.data.toList.take k).count 10 := by
  unfold Lib.countByte
  congr 1
  simp [ByteArray.data_extract]
theorem size_part (s : ByteArray) (k : Nat) (hk : k ≤ s.size) : (s.extract 0 k).size = k := by rw [ByteArray.size_extract]; omega
end Plain
end Go.Proofs.Ytflcpcefjliijaa
