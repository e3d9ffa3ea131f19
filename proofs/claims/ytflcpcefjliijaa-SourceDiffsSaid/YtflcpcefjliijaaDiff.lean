/-
  CONTRACTS: source.Diff and its reference find the same edit.
-/
import Derived.Test.YtflcpcefjliijaaDiffPlain
import Derived.Test.YtflcpcefjliijaaChecked
import Derived.WalkKit
import Derived.WalkSpells
import Derived.WalkLawsBesides
import Derived.Deep.QuietTactic
import Derived.BigQuiet
import Derived.Lib.Hide
namespace Go.Proofs.Ytflcpcefjliijaa
open Go.RowKit
set_option linter.unusedVariables false

/-- the byte that stands j bytes before the end -/
theorem index_back (a : ByteArray) (j : Nat) (h : j < a.size) (w : World) :
    (Instr.index 9 (.string a) (.int .i64 ((a.size : Int) - 1 - (j : Int)))).run Try.prog w = .ok (.int .u8 ((a[a.size - 1 - j]'(by omega)).toNat : Int)) w := by
  rw [run_index_string w 9 a .i64 _ Try.underlying9, dif_pos (by omega)]
  congr 3
  have e : ((a.size : Int) - 1 - (j : Int)).toNat = a.size - 1 - j := by omega
  simp only [e]

theorem slice_mid (b : ByteArray) (p q : Nat) (h : p + q ≤ b.size) (w : World) :
    (Instr.slice 9 (.string b) (some (.int .i64 (p : Int))) (some (.int .i64 ((b.size : Int) - (q : Int)))) none).run Try.prog w = .ok (.string (b.extract p (b.size - q))) w := by
  rw [run_slice_string w 9 b .i64 .i64 _ _ Try.underlying9 (by omega) (by omega) (by omega)]
  have e : ((b.size : Int) - (q : Int)).toNat = b.size - q := by omega
  rw [e]
  rfl

theorem drawn (w : World) (m n : Nat) : ∃ k, (w.drewN m).drewN n = w.drewN k := ⟨m + n, World.drewN_drewN ..⟩
theorem ret_nat {j k : Nat} (h : j = k) : Ending.returned (.int .i64 (j : Int)) = Ending.returned (.int .i64 (k : Int)) := by rw [h]

set_option maxHeartbeats 400000 in
theorem prefix_any (a b : ByteArray) (w : World) (ha : a.size ≤ 4611686018427387904) :
    Calls Try.prog 45 #[.string a, .string b] w fun e w' => e = .returned (.int .i64 (Plain.preB a b : Nat)) ∧ ∃ m, w' = w.drewN m := by
  have l1 := Plain.preB_left a b
  have l2 := Plain.preB_right a b
  go_enter Try.func45, Try.ntmps45
  go_wp2
  go_loopw [5] (fun i wr => ∃ j : Nat, j ≤ Plain.preB a b ∧ i = .int .i64 j ∧ ∃ m, wr = w.drewN m) (fun i _ => a.size - (intOf i).toNat)
  case atStart => exact ⟨0, Nat.zero_le _, rfl, 0, rfl⟩
  case round =>
    obtain ⟨j, hj, rfl, m, rfl⟩ := hrel
    by_cases hlt : j < Plain.preB a b
    · have h1 : j < a.size := by omega
      have h2 : j < b.size := by omega
      have ht := Plain.preB_get a b j hlt h1 h2
      go_wp2_with fail
      go_quiet (fail)
      go_wp2
      go_roundw
      case rel => exact ⟨j + 1, by omega, by go_num, _, rfl⟩
      case measure => simp [intOf]; omega
    · have hje : j = Plain.preB a b := by omega
      by_cases h1 : j < a.size
      · by_cases h2 : j < b.size
        · have ht : (((a[j]).toNat : Int) == ((b[j]).toNat : Int)) = false := by subst hje; exact Plain.preB_stop a b h1 h2
          have He := Lib.hid hje
          clear hje
          go_wp2_with fail
          go_quiet (fail)
          go_wp2
          go_ret
          exact ⟨ret_nat He.out, drawn _ _ _⟩
        · have d1 : decide (j < b.size) = false := by simpa using h2
          have He := Lib.hid hje
          clear hje
          go_wp2_with fail
          go_quiet (fail)
          go_wp2
          go_ret
          exact ⟨ret_nat He.out, drawn _ _ _⟩
      · have d1 : decide (j < a.size) = false := by simpa using h1
        have He := Lib.hid hje
        clear hje
        go_wp2_with fail
        go_quiet (fail)
        go_wp2
        go_ret
        exact ⟨ret_nat He.out, drawn _ _ _⟩

set_option maxHeartbeats 400000 in
theorem suffix_any (a b : ByteArray) (w : World) (ha : a.size ≤ 4611686018427387904) (hb : b.size ≤ 4611686018427387904) :
    Calls Try.prog 46 #[.string a, .string b] w fun e w' => e = .returned (.int .i64 (Plain.sufB a b : Nat)) ∧ ∃ m, w' = w.drewN m := by
  have l1 := Plain.sufB_left a b
  have l2 := Plain.sufB_right a b
  go_enter Try.func46, Try.ntmps46
  go_wp2
  go_loopw [5] (fun i wr => ∃ j : Nat, j ≤ Plain.sufB a b ∧ i = .int .i64 j ∧ ∃ m, wr = w.drewN m) (fun i _ => a.size - (intOf i).toNat)
  case atStart => exact ⟨0, Nat.zero_le _, rfl, 0, rfl⟩
  case round =>
    obtain ⟨j, hj, rfl, m, rfl⟩ := hrel
    by_cases hlt : j < Plain.sufB a b
    · have h1 : j < a.size := by omega
      have h2 : j < b.size := by omega
      have ht := Plain.sufB_get a b j hlt h1 h2
      have w1 : IntKind.i64.wrap ((a.size : Int) - 1) = (a.size : Int) - 1 := IntWalk.i64_in _ (by omega)
      have w2 : IntKind.i64.wrap ((a.size : Int) - 1 - (j : Int)) = (a.size : Int) - 1 - (j : Int) := IntWalk.i64_in _ (by omega)
      have w3 : IntKind.i64.wrap ((b.size : Int) - 1) = (b.size : Int) - 1 := IntWalk.i64_in _ (by omega)
      have w4 : IntKind.i64.wrap ((b.size : Int) - 1 - (j : Int)) = (b.size : Int) - 1 - (j : Int) := IntWalk.i64_in _ (by omega)
      have n3 := index_back a j h1
      have n4 := index_back b j h2
      have HH := Lib.hid hj
      go_wp2_with fail
      go_quiet (fail)
      clear w1 w2 w3 w4 n3 n4
      go_wp2
      go_roundw
      case rel => exact ⟨j + 1, by omega, by go_num, _, rfl⟩
      case measure => simp [intOf]; omega
    · have hje : j = Plain.sufB a b := by omega
      by_cases h1 : j < a.size
      · by_cases h2 : j < b.size
        · have ht : (((a[a.size - 1 - j]'(by omega)).toNat : Int) == ((b[b.size - 1 - j]'(by omega)).toNat : Int)) = false := by subst hje; exact Plain.sufB_stop a b h1 h2
          have w1 : IntKind.i64.wrap ((a.size : Int) - 1) = (a.size : Int) - 1 := IntWalk.i64_in _ (by omega)
          have w2 : IntKind.i64.wrap ((a.size : Int) - 1 - (j : Int)) = (a.size : Int) - 1 - (j : Int) := IntWalk.i64_in _ (by omega)
          have w3 : IntKind.i64.wrap ((b.size : Int) - 1) = (b.size : Int) - 1 := IntWalk.i64_in _ (by omega)
          have w4 : IntKind.i64.wrap ((b.size : Int) - 1 - (j : Int)) = (b.size : Int) - 1 - (j : Int) := IntWalk.i64_in _ (by omega)
          have n3 := index_back a j h1
          have n4 := index_back b j h2
          have He := Lib.hid hje
          clear hje
          go_wp2_with fail
          go_quiet (fail)
          go_wp2
          go_ret
          exact ⟨ret_nat He.out, drawn _ _ _⟩
        · have d1 : decide (j < b.size) = false := by simpa using h2
          have He := Lib.hid hje
          clear hje
          go_wp2_with fail
          go_quiet (fail)
          go_wp2
          go_ret
          exact ⟨ret_nat He.out, drawn _ _ _⟩
      · have d1 : decide (j < a.size) = false := by simpa using h1
        have He := Lib.hid hje
        clear hje
        go_wp2_with fail
        go_quiet (fail)
        go_wp2
        go_ret
        exact ⟨ret_nat He.out, drawn _ _ _⟩

/-- what the edit is: where it begins, how many bytes go, and what comes -/
def editAt (a b : ByteArray) : Nat := Plain.preB a b
def editEnd (a b : ByteArray) : Nat := Plain.sufB (a.extract (Plain.preB a b) a.size) (b.extract (Plain.preB a b) b.size)
theorem editEnd_left (a b : ByteArray) : editAt a b + editEnd a b ≤ a.size := by
  have h := Plain.sufB_left (a.extract (Plain.preB a b) a.size) (b.extract (Plain.preB a b) b.size)
  have l := Plain.preB_left a b
  rw [ByteArray.size_extract] at h
  unfold editAt editEnd
  omega
theorem editEnd_right (a b : ByteArray) : editAt a b + editEnd a b ≤ b.size := by
  have h := Plain.sufB_right (a.extract (Plain.preB a b) a.size) (b.extract (Plain.preB a b) b.size)
  have l := Plain.preB_right a b
  rw [ByteArray.size_extract] at h
  unfold editAt editEnd
  omega

set_option maxHeartbeats 400000 in
theorem diff_any (a b : ByteArray) (w : World) (ha : a.size ≤ 4611686018427387904) (hb : b.size ≤ 4611686018427387904) :
    Calls Try.prog 17 #[.string a, .string b] w fun e w' => e = .returned (.tuple #[.int .i64 (editAt a b : Nat), .int .i64 ((a.size : Int) - (editAt a b : Nat) - (editEnd a b : Nat)), .string (b.extract (editAt a b) (b.size - editEnd a b))]) ∧ ∃ m, w' = w.drewN m := by
  have l1 := Plain.preB_left a b
  have l2 := Plain.preB_right a b
  have k1 := editEnd_left a b
  have k2 := editEnd_right a b
  have hF : Ending.returned (.tuple #[.int .i64 (Plain.preB a b : Nat), .int .i64 ((a.size : Int) - (Plain.preB a b : Nat) - (Plain.sufB (a.extract (Plain.preB a b) a.size) (b.extract (Plain.preB a b) b.size) : Nat)), .string (b.extract (Plain.preB a b) (b.size - Plain.sufB (a.extract (Plain.preB a b) a.size) (b.extract (Plain.preB a b) b.size)))]) =
    .returned (.tuple #[.int .i64 (editAt a b : Nat), .int .i64 ((a.size : Int) - (editAt a b : Nat) - (editEnd a b : Nat)), .string (b.extract (editAt a b) (b.size - editEnd a b))]) := rfl
  have HF := Lib.hid hF
  clear hF
  go_enter Try.func17, Try.ntmps17
  go_wp2_with fail
  refine (prefix_any a b _ ha).mono ?_
  rintro e w1 ⟨rfl, m, hw⟩
  have HW := Lib.hid hw
  clear hw
  go_wp2_with fail
  have s1 : (a.extract (Plain.preB a b) a.size).size ≤ 4611686018427387904 := by rw [ByteArray.size_extract]; omega
  have s2 : (b.extract (Plain.preB a b) b.size).size ≤ 4611686018427387904 := by rw [ByteArray.size_extract]; omega
  go_quiet ((go_at_call 46; exact Calls.quiet_of (suffix_any _ _ _ s1 s2)))
  unfold editAt editEnd at k1 k2
  generalize Plain.preB a b = p at *
  generalize Plain.sufB (a.extract p a.size) (b.extract p b.size) = q at *
  have e1 : IntKind.i64.wrap ((a.size : Int) - (p : Int)) = (a.size : Int) - (p : Int) := IntWalk.i64_in _ (by omega)
  have e2 : IntKind.i64.wrap ((a.size : Int) - (p : Int) - (q : Int)) = (a.size : Int) - (p : Int) - (q : Int) := IntWalk.i64_in _ (by omega)
  have e3 : IntKind.i64.wrap ((b.size : Int) - (q : Int)) = (b.size : Int) - (q : Int) := IntWalk.i64_in _ (by omega)
  have e4 := slice_mid b p q k2
  go_wp2_with fail
  go_quiet (fail)
  clear e1 e2 e3 e4
  go_wp2_with fail
  go_ret3
  exact ⟨HF.out, _, by rw [HW.out]; simp only [World.drewN_drewN]; rfl⟩

end Go.Proofs.Ytflcpcefjliijaa
