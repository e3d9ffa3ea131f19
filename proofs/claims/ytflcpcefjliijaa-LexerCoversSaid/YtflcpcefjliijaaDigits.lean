/-
  CONTRACTS: numbers as texts, and the letters that name modules: they end, and are short.
-/
import Derived.Test.YtflcpcefjliijaaNext
import Derived.Test.YtflcpcefjliijaaSource
namespace Go.Proofs.Ytflcpcefjliijaa
open Go Go.RowKit
set_option linter.unusedVariables false

/-- string([]byte{c}) -/
theorem byte_text (w : World) (c : Nat) (hc : c < 256) : (convert 88 9 (.slice (some ⟨w.heap.size, 0, none⟩) 1 1)).run Try.prog (w.alloc (.cells #[.int .u8 (c : Int)] 5)) = .ok (.string ⟨#[UInt8.ofNat c]⟩) (w.alloc (.cells #[.int .u8 (c : Int)] 5)) := by
  have h := run_convert_bytes_back (P := Try.prog) (w.alloc (.cells #[.int .u8 (c : Int)] 5)) 88 9 5 ⟨w.heap.size, 0, none⟩ 1 [UInt8.ofNat c] Try.underlying88 Try.underlying5 Try.underlying9 (by
    intro j hj
    simp at hj
    subst hj
    have e : (UInt8.ofNat c).toNat = c := by simp; omega
    rw [add_lit, cell_of_row _ w.heap.size (0 + 0) _ 5 (0, 0) (heap_alloc_new w _)]
    simp
    omega)
  simpa using h

/-- a digit -/
theorem oneDigit_any (n : Nat) (w : World) (h : n < 10) :
    Calls Try.prog 36 #[.int .i64 (n : Int)] w fun e w' => ∃ s : ByteArray, s.size ≤ 1 ∧ e = .returned (.string s) ∧ Below w.heap.size w w' := by
  have hlt : (n : Int) < 10 := by omega
  have hnn : ¬ (n : Int) < 0 := by omega
  have e1 : IntKind.i64.wrap (48 + (n : Int)) = 48 + (n : Int) := IntWalk.i64_in _ (by omega)
  have e2 : IntKind.u8.wrap (48 + (n : Int)) = 48 + (n : Int) := IntWalk.u8_in _ (by omega)
  have hcv := byte_text w (48 + n) (by omega)
  have e3 : ((48 + n : Nat) : Int) = 48 + (n : Int) := by omega
  rw [e3] at hcv
  clear e3
  have HS : Hid (Below w.heap.size w (w.alloc (.cells #[.int .u8 (48 + (n : Int))] 5))) := (Below.refl _ _).alloc (Nat.le_refl _) _
  go_enter Try.func36, Try.ntmps36
  go_wp2_with fail
  go_ret
  refine ⟨_, ?_, rfl, HS.out⟩
  exact Nat.le_refl 1

/-- one digit more -/
theorem digits_step (B c : Nat) (hB : 10 ≤ B) (hB2 : B ≤ 100000000) (hc : 1 ≤ c) (hc2 : c ≤ 1000) (ih : ∀ (n : Nat) (w : World), n < B →
      Calls Try.prog 36 #[.int .i64 (n : Int)] w fun e w' => ∃ s : ByteArray, s.size ≤ c ∧ e = .returned (.string s) ∧ Below w.heap.size w w')
    (n : Nat) (w : World) (h : n < 10 * B) :
    Calls Try.prog 36 #[.int .i64 (n : Int)] w fun e w' => ∃ s : ByteArray, s.size ≤ c + 1 ∧ e = .returned (.string s) ∧ Below w.heap.size w w' := by
  by_cases h10 : n < 10
  · exact (oneDigit_any n w h10).mono fun e w' ⟨s, h1, h2, h3⟩ => ⟨s, by omega, h2, h3⟩
  · have hnn : ¬ (n : Int) < 0 := by omega
    have hge : ¬ (n : Int) < 10 := by omega
    have q1 : n / 10 < B := by omega
    have q2 : n % 10 < 10 := by omega
    have CA := fun w => ih (n / 10) w q1
    have CB := fun w => oneDigit_any (n % 10) w q2
    have e0 : ((n / 10 : Nat) : Int) = (n : Int) / 10 := by omega
    have e1 : ((n % 10 : Nat) : Int) = (n : Int) % 10 := by omega
    rw [e0] at CA
    rw [e1] at CB
    have HA := Lib.hid CA
    have HB := Lib.hid CB
    clear CA CB e0 e1 ih q1 q2
    go_enter Try.func36, Try.ntmps36
    go_wp2_with fail
    refine (HA.out _).mono ?_
    rintro e w1 ⟨s1, hs1, rfl, hb1⟩
    have H1 := Lib.hid hb1
    clear hb1
    go_wp2_with fail
    refine (HB.out _).mono ?_
    rintro e w2 ⟨s2, hs2, rfl, hb2⟩
    have H2 := Lib.hid hb2
    clear hb2
    go_wp2_with fail
    go_ret
    exact ⟨_, by rw [ByteArray.size_append]; omega, rfl, H1.out.trans (H2.out.mono H1.out.size)⟩

/-- numbers below 1000 -/
theorem digits_any (n : Nat) (w : World) (h : n < 1000) :
    Calls Try.prog 36 #[.int .i64 (n : Int)] w fun e w' => ∃ s : ByteArray, s.size ≤ 3 ∧ e = .returned (.string s) ∧ Below w.heap.size w w' :=
  digits_step 100 2 (by omega) (by omega) (by omega) (by omega) (fun n w h => digits_step 10 1 (by omega) (by omega) (by omega) (by omega) oneDigit_any n w h) n w h

/-- the name of a module -/
theorem letter_any (n : Nat) (w : World) (h : n < 26) :
    Calls Try.prog 31 #[.int .i64 (n : Int)] w fun e w' => e = .returned (.string ⟨#[UInt8.ofNat (97 + n)]⟩) ∧ Below w.heap.size w w' := by
  have e1 : IntKind.i64.wrap (97 + (n : Int)) = 97 + (n : Int) := IntWalk.i64_in _ (by omega)
  have e2 : IntKind.u8.wrap (97 + (n : Int)) = 97 + (n : Int) := IntWalk.u8_in _ (by omega)
  have hcv := byte_text w (97 + n) (by omega)
  have e3 : ((97 + n : Nat) : Int) = 97 + (n : Int) := by omega
  rw [e3] at hcv
  clear e3
  generalize UInt8.ofNat (97 + n) = c at *
  have HS : Hid (Below w.heap.size w (w.alloc (.cells #[.int .u8 (97 + (n : Int))] 5))) := (Below.refl _ _).alloc (Nat.le_refl _) _
  go_enter Try.func31, Try.ntmps31
  go_wp2_with fail
  go_ret
  exact ⟨rfl, HS.out⟩

end Go.Proofs.Ytflcpcefjliijaa
