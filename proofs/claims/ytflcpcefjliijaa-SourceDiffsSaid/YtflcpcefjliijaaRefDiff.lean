/-
  CONTRACTS: the reference's Diff finds the same edit.
-/
import Derived.Test.YtflcpcefjliijaaDiff
import Derived.Deep.CutBlock
import Derived.Deep.CutRange
namespace Go.Proofs.Ytflcpcefjliijaa
open Go.RowKit
set_option linter.unusedVariables false

/-- the bytes from the end of both tails, while they agree -/
theorem tail_get (a b : ByteArray) (p k : Nat) (ha : p ≤ a.size) (hb : p ≤ b.size) (h : k < Plain.sufB (a.extract p a.size) (b.extract p b.size)) (h1 : k < a.size - p) (h2 : k < b.size - p) :
    (((a[a.size - 1 - k]'(by omega)).toNat : Int) == ((b[b.size - 1 - k]'(by omega)).toNat : Int)) = true := by
  have s1 : (a.extract p a.size).size = a.size - p := by rw [ByteArray.size_extract]; omega
  have s2 : (b.extract p b.size).size = b.size - p := by rw [ByteArray.size_extract]; omega
  have t := Plain.sufB_get _ _ k h (by omega) (by omega)
  rw [ByteArray.getElem_extract, ByteArray.getElem_extract] at t
  have x1 : p + ((a.extract p a.size).size - 1 - k) = a.size - 1 - k := by omega
  have x2 : p + ((b.extract p b.size).size - 1 - k) = b.size - 1 - k := by omega
  simp only [x1, x2] at t
  exact t

theorem sufB_stop_at (a b : ByteArray) (k : Nat) (hk : k = Plain.sufB a b) (h1 : k < a.size) (h2 : k < b.size) :
    (((a[a.size - 1 - k]'(by omega)).toNat : Int) == ((b[b.size - 1 - k]'(by omega)).toNat : Int)) = false := by
  subst hk
  exact Plain.sufB_stop a b h1 h2

theorem tail_stop (a b : ByteArray) (p k : Nat) (ha : p ≤ a.size) (hb : p ≤ b.size) (hk : k = Plain.sufB (a.extract p a.size) (b.extract p b.size)) (h1 : k < a.size - p) (h2 : k < b.size - p) :
    (((a[a.size - 1 - k]'(by omega)).toNat : Int) == ((b[b.size - 1 - k]'(by omega)).toNat : Int)) = false := by
  have s1 : (a.extract p a.size).size = a.size - p := by rw [ByteArray.size_extract]; omega
  have s2 : (b.extract p b.size).size = b.size - p := by rw [ByteArray.size_extract]; omega
  have t := sufB_stop_at (a.extract p a.size) (b.extract p b.size) k hk (by omega) (by omega)
  rw [ByteArray.getElem_extract, ByteArray.getElem_extract] at t
  have x1 : p + ((a.extract p a.size).size - 1 - k) = a.size - 1 - k := by omega
  have x2 : p + ((b.extract p b.size).size - 1 - k) = b.size - 1 - k := by omega
  simp only [x1, x2] at t
  exact t

theorem ret_diff (a b : ByteArray) (p q j : Nat) (h : j = q) : Ending.returned (.tuple #[.int .i64 (p : Int), .int .i64 ((a.size : Int) - (p : Int) - (j : Int)), .string (b.extract p (b.size - j))]) = .returned (.tuple #[.int .i64 (p : Int), .int .i64 ((a.size : Int) - (p : Int) - (q : Int)), .string (b.extract p (b.size - q))]) := by rw [h]

theorem drawn3 (w : World) (m n k : Nat) : ∃ j, ((w.drewN m).drewN n).drewN k = w.drewN j := ⟨_, by simp only [World.drewN_drewN]; rfl⟩

/-- the first loop's end: where the texts part -/
def PartAt (a b : ByteArray) (p : Value) : Prop := p = .int .i64 (Plain.preB a b : Nat)

set_option maxHeartbeats 400000 in
theorem refDiff_any (a b : ByteArray) (w : World) (ha : a.size ≤ 4611686018427387904) (hb : b.size ≤ 4611686018427387904) :
    Calls Try.prog 18 #[.string a, .string b] w fun e w' => e = .returned (.tuple #[.int .i64 (editAt a b : Nat), .int .i64 ((a.size : Int) - (editAt a b : Nat) - (editEnd a b : Nat)), .string (b.extract (editAt a b) (b.size - editEnd a b))]) ∧ ∃ m, w' = w.drewN m := by
  have l1 := Plain.preB_left a b
  have l2 := Plain.preB_right a b
  go_enter Try.func18, Try.ntmps18
  go_upto_block 0 with fail
  go_cut [7] from 9 to 29 (fun v wr => PartAt a b v ∧ ∃ m, wr = w.drewN m)
  case first =>
    go_wp2_with fail
    go_loopw [7] (fun i wr => ∃ j : Nat, j ≤ Plain.preB a b ∧ i = .int .i64 j ∧ ∃ m, wr = w.drewN m) (fun i _ => a.size - (intOf i).toNat)
    case atStart => exact ⟨0, Nat.zero_le _, rfl, 0, rfl⟩
    case round =>
      obtain ⟨j, hj, rfl, m, rfl⟩ := hrel
      by_cases hlt : j < Plain.preB a b
      · have h1 : j < a.size := by omega
        have h2 : j < b.size := by omega
        have ht := Plain.preB_get a b j hlt h1 h2
        go_wp2_with fail
        go_quiet (fail)
        go_wp2
        go_roundw
        case rel => exact ⟨j + 1, by omega, by go_num, _, rfl⟩
        case measure => simp [intOf]; omega
      · have hje : j = Plain.preB a b := by omega
        by_cases h1 : j < a.size
        · by_cases h2 : j < b.size
          · have ht : (((a[j]).toNat : Int) == ((b[j]).toNat : Int)) = false := by subst hje; exact Plain.preB_stop a b h1 h2
            have He := Lib.hid hje
            clear hje
            go_wp2_with fail
            go_quiet (fail)
            go_wp2_with fail
            go_meet
            exact ⟨by unfold PartAt; rw [He.out], drawn _ _ _⟩
          · have d1 : decide (j < b.size) = false := by simpa using h2
            have He := Lib.hid hje
            clear hje
            go_wp2_with fail
            go_quiet (fail)
            go_wp2_with fail
            go_meet
            exact ⟨by unfold PartAt; rw [He.out], drawn _ _ _⟩
        · have d1 : decide (j < a.size) = false := by simpa using h1
          have He := Lib.hid hje
          clear hje
          go_wp2_with fail
          go_quiet (fail)
          go_wp2_with fail
          go_meet
          exact ⟨by unfold PartAt; rw [He.out], drawn _ _ _⟩
  case rest =>
    obtain ⟨hp, m0, rfl⟩ := hcut
    unfold PartAt at hp
    subst hp
    have k1 := editEnd_left a b
    have k2 := editEnd_right a b
    unfold editAt editEnd at k1 k2
    obtain ⟨q, hq⟩ : ∃ q, q = Plain.sufB (a.extract (Plain.preB a b) a.size) (b.extract (Plain.preB a b) b.size) := ⟨_, rfl⟩
    rw [← hq] at k1 k2
    have HE := Lib.hid (show editAt a b = Plain.preB a b from rfl)
    have HQ := Lib.hid (show editEnd a b = q from hq.symm)
    have Hq := Lib.hid hq
    clear hq
    generalize Plain.preB a b = p at *
    have e1 : IntKind.i64.wrap ((a.size : Int) - (p : Int)) = (a.size : Int) - (p : Int) := IntWalk.i64_in _ (by omega)
    have e2 : IntKind.i64.wrap ((b.size : Int) - (p : Int)) = (b.size : Int) - (p : Int) := IntWalk.i64_in _ (by omega)
    have w1 : IntKind.i64.wrap ((a.size : Int) - 1) = (a.size : Int) - 1 := IntWalk.i64_in _ (by omega)
    have w3 : IntKind.i64.wrap ((b.size : Int) - 1) = (b.size : Int) - 1 := IntWalk.i64_in _ (by omega)
    go_wp2_with fail
    go_loopw [8] (fun i wr => ∃ j : Nat, j ≤ q ∧ i = .int .i64 j ∧ ∃ m, wr = w.drewN m) (fun i _ => a.size - (intOf i).toNat)
    case atStart => exact ⟨0, Nat.zero_le _, rfl, m0, rfl⟩
    case round =>
      obtain ⟨j, hj, rfl, m, rfl⟩ := hrel
      by_cases hlt : j < q
      · have h1 : j < a.size - p := by omega
        have h2 : j < b.size - p := by omega
        have g1 : (j : Int) < (a.size : Int) - (p : Int) := by omega
        have g2 : (j : Int) < (b.size : Int) - (p : Int) := by omega
        have ht := tail_get a b p j l1 l2 (by rw [← Hq.out]; exact hlt) h1 h2
        have w2 : IntKind.i64.wrap ((a.size : Int) - 1 - (j : Int)) = (a.size : Int) - 1 - (j : Int) := IntWalk.i64_in _ (by omega)
        have w4 : IntKind.i64.wrap ((b.size : Int) - 1 - (j : Int)) = (b.size : Int) - 1 - (j : Int) := IntWalk.i64_in _ (by omega)
        have n3 := index_back a j (by omega)
        have n4 := index_back b j (by omega)
        have HH := Lib.hid hj
        go_wp2_with fail
        go_quiet (fail)
        go_wp2
        go_roundw
        case rel => exact ⟨j + 1, by omega, by go_num, _, rfl⟩
        case measure => simp [intOf]; omega
      · have hje : j = q := by omega
        have e3 : IntKind.i64.wrap ((a.size : Int) - (p : Int) - (j : Int)) = (a.size : Int) - (p : Int) - (j : Int) := IntWalk.i64_in _ (by omega)
        have e4 : IntKind.i64.wrap ((b.size : Int) - (j : Int)) = (b.size : Int) - (j : Int) := IntWalk.i64_in _ (by omega)
        have e5 := slice_mid b p j (by omega)
        by_cases h1 : j < a.size - p
        · have g1 : (j : Int) < (a.size : Int) - (p : Int) := by omega
          by_cases h2 : j < b.size - p
          · have g2 : (j : Int) < (b.size : Int) - (p : Int) := by omega
            have He := Lib.hid hje
            clear hje
            have ht := tail_stop a b p j l1 l2 (by rw [← Hq.out]; exact He.out) h1 h2
            have w2 : IntKind.i64.wrap ((a.size : Int) - 1 - (j : Int)) = (a.size : Int) - 1 - (j : Int) := IntWalk.i64_in _ (by omega)
            have w4 : IntKind.i64.wrap ((b.size : Int) - 1 - (j : Int)) = (b.size : Int) - 1 - (j : Int) := IntWalk.i64_in _ (by omega)
            have n3 := index_back a j (by omega)
            have n4 := index_back b j (by omega)
            go_wp2_with fail
            go_quiet (fail)
            go_wp2_with fail
            go_quiet (fail)
            go_wp2_with fail
            go_ret3
            exact ⟨by rw [HE.out, HQ.out]; exact ret_diff a b p q j He.out, drawn3 _ _ _ _⟩
          · have d1 : decide ((j : Int) < (b.size : Int) - (p : Int)) = false := by simpa using (by omega : ¬ (j : Int) < (b.size : Int) - (p : Int))
            have He := Lib.hid hje
            clear hje
            go_wp2_with fail
            go_quiet (fail)
            go_wp2_with fail
            go_quiet (fail)
            go_wp2_with fail
            go_ret3
            exact ⟨by rw [HE.out, HQ.out]; exact ret_diff a b p q j He.out, drawn3 _ _ _ _⟩
        · have d1 : decide ((j : Int) < (a.size : Int) - (p : Int)) = false := by simpa using (by omega : ¬ (j : Int) < (a.size : Int) - (p : Int))
          have He := Lib.hid hje
          clear hje
          go_wp2_with fail
          go_quiet (fail)
          go_wp2_with fail
          go_quiet (fail)
          go_wp2_with fail
          go_ret3
          exact ⟨by rw [HE.out, HQ.out]; exact ret_diff a b p q j He.out, drawn3 _ _ _ _⟩

end Go.Proofs.Ytflcpcefjliijaa
