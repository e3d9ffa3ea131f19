/-
  CONTRACTS: source.Line and its reference say the line and the column of a place alike.
-/
import Derived.Test.YtflcpcefjliijaaPlain
import Derived.Test.YtflcpcefjliijaaShelf
import Derived.WalkKit
import Derived.WalkSpells
import Derived.WalkLawsBesides
import Derived.BigQuiet
import Derived.Lib.Hide
import Derived.KernelRfl
namespace Go.Proofs.Ytflcpcefjliijaa
open Go.RowKit
set_option linter.unusedVariables false

theorem ret_two {k : IntKind} {a b c d : Int} (h : a = c) (g : b = d) : Ending.returned (.tuple #[.int k a, .int k b]) = .returned (.tuple #[.int k c, .int k d]) := by rw [h, g]
theorem int_eq {k : IntKind} {a b : Int} (h : a = b) : Value.int k a = Value.int k b := by rw [h]

theorem Lib.extract_all (s : ByteArray) : s.extract 0 s.size = s := by
  apply ByteArray.ext
  simp
theorem Lib.last_empty : Lib.lastIndexByte ByteArray.empty 10 = -1 := rfl
theorem Lib.size_empty : ByteArray.empty.size = 0 := rfl

/-- source.Line at a place within the text -/
theorem line_cut (s : ByteArray) (k : Nat) (hk : k ≤ s.size) :
    ((Lib.countByte (List.take k s.data.toList) 10 : Nat) : Int) + 1 = Plain.lineAt s k ∧ (k : Int) - Lib.lastIndexByte (s.extract 0 k) 10 = Plain.colAt s k := by
  refine ⟨rfl, ?_⟩
  unfold Lib.lastIndexByte Plain.colAt
  rw [Plain.size_part s k hk, Plain.lastIdx_part s 10 k hk k (Nat.le_refl _)]

theorem line_any (s : ByteArray) (at_ : Int) (k : Nat) (w : World) (hs : s.size ≤ 4000000000) (hk : k ≤ s.size)
    (hat : (k : Int) = at_ ∨ (k = s.size ∧ (k : Int) ≤ at_) ∨ (k = 0 ∧ at_ ≤ 0)) :
    Calls Try.prog 29 #[.string s, .int .i64 at_] w fun e w' => e = .returned (.tuple #[.int .i64 (Plain.lineAt s k), .int .i64 (Plain.colAt s k)]) ∧ w = w' := by
  have hc := line_cut s k hk
  have H1 := Lib.hid hc.1
  have H2 := Lib.hid hc.2
  have b1 := Plain.lineAt_bounds s k
  have b2 := Plain.lastIdx_bounds (s.extract 0 k) 10 (s.extract 0 k).size
  have hz : (s.extract 0 k).size = k := Plain.size_part s k hk
  have b3 : ((Lib.countByte (List.take k s.data.toList) 10 : Nat) : Int) + 1 ≤ k + 1 := by rw [hc.1]; exact b1.2
  have b4 : -1 ≤ Lib.lastIndexByte (s.extract 0 k) 10 ∧ Lib.lastIndexByte (s.extract 0 k) 10 < k := by unfold Lib.lastIndexByte; rw [hz] at b2 ⊢; exact b2
  obtain ⟨b5, b6⟩ := b4
  have hz1 : (s.extract 0 k).size ≤ 4000000000 := by omega
  have H3 := Lib.hid hz
  clear hc b1 b2 hz
  go_enter Try.func29, Try.ntmps29
  have hend : ∀ (a b : Int), a = ((Lib.countByte (List.take k s.data.toList) 10 : Nat) : Int) + 1 → b = (k : Int) - Lib.lastIndexByte (s.extract 0 k) 10 → Ending.returned (.tuple #[.int .i64 a, .int .i64 b]) = .returned (.tuple #[.int .i64 (Plain.lineAt s k), .int .i64 (Plain.colAt s k)]) := fun a b ha hb => ret_two (ha.trans H1.out) (hb.trans H2.out)
  have HE := Lib.hid hend
  clear hend
  rcases hat with h | ⟨h1, h2⟩ | ⟨h1, h2⟩
  · subst h
    have m1 : min (k : Int) (s.size : Int) = k := by omega
    have m2 : min k s.size = k := by omega
    go_wp2_with fail
    refine (Try.strings_Count_one _ 10 _).mono ?_
    rintro e w' ⟨rfl, rfl⟩
    go_wp2_with fail
    refine (Try.strings_LastIndexByte _ 10 (by omega) _).mono ?_
    rintro e w' ⟨rfl, rfl⟩
    go_wp2_with fail
    go_ret2
    exact ⟨HE.out _ _ rfl rfl, rfl⟩
  · subst h1
    have m1 : min at_ (s.size : Int) = s.size := by omega
    have m0 : max at_ 0 = at_ := by omega
    go_wp2_with fail
    refine (Try.strings_Count_one _ 10 _).mono ?_
    rintro e w' ⟨rfl, rfl⟩
    go_wp2_with fail
    refine (Try.strings_LastIndexByte _ 10 (by omega) _).mono ?_
    rintro e w' ⟨rfl, rfl⟩
    go_wp2_with fail
    go_ret2
    have e1 : List.take s.size s.data.toList = s.data.toList := List.take_of_length_le (by simp)
    have e2 : s.extract 0 s.size = s := Lib.extract_all s
    rw [e1] at b3
    rw [e2] at b5 b6
    refine ⟨HE.out _ _ ?_ ?_, rfl⟩
    · rw [e1, IntWalk.wrap64_in _ ⟨by omega, by omega⟩]
    · rw [e2, IntWalk.wrap64_in _ ⟨by omega, by omega⟩]
  · subst h1
    have m0 : max at_ 0 = 0 := by omega
    have m1 : min (0 : Int) (s.size : Int) = 0 := by omega
    go_wp2_with fail
    refine (Try.strings_Count_one _ 10 _).mono ?_
    rintro e w' ⟨rfl, rfl⟩
    go_wp2_with fail
    refine (Try.strings_LastIndexByte _ 10 (by rw [Lib.size_empty]; omega) _).mono ?_
    rintro e w' ⟨rfl, rfl⟩
    go_wp2_with fail
    go_ret2
    have e2 : s.extract 0 0 = ByteArray.empty := by simp
    refine ⟨HE.out _ _ ?_ ?_, rfl⟩
    · simp [Lib.countByte, wrap64]
    · rw [e2, Lib.last_empty]; simp [wrap64]

end Go.Proofs.Ytflcpcefjliijaa
