/-
  CONTRACTS: the sanity check with which each statement of this layer begins is met.
-/
import Derived.Test.YtflcpcefjliijaaLine
import Derived.Test.YtflcpcefjliijaaDiff
import Derived.Test.YtflcpcefjliijaaSplice
import Derived.Handy
namespace Go.Proofs.Ytflcpcefjliijaa
open Go.RowKit
set_option linter.unusedVariables false

theorem diff_awake (w : World) :
    Calls Try.prog 17 #[.string ⟨#[97, 98, 99, 100]⟩, .string ⟨#[97, 120, 100]⟩] w fun e w' => e = .returned (.tuple #[.int .i64 1, .int .i64 2, .string ⟨#[120]⟩]) ∧ ∃ m, w' = w.drewN m := by
  refine (diff_any ⟨#[97, 98, 99, 100]⟩ ⟨#[97, 120, 100]⟩ w (by decide) (by decide)).mono ?_
  rintro e w' ⟨rfl, hw⟩
  exact ⟨by kernel_rfl, hw⟩
theorem line_awake (w : World) :
    Calls Try.prog 29 #[.string ⟨#[97, 10, 98, 99]⟩, .int .i64 3] w fun e w' => e = .returned (.tuple #[.int .i64 2, .int .i64 2]) ∧ w = w' := by
  refine (line_any ⟨#[97, 10, 98, 99]⟩ 3 3 w (by decide) (by decide) (Or.inl rfl)).mono ?_
  rintro e w' ⟨rfl, hw⟩
  exact ⟨by kernel_rfl, hw⟩

theorem check_nil (w : World) :
    Calls Try.prog 43 #[.slice none 0 0] w fun e w' => e = .returned (.int .i64 0) ∧ w = w' := by
  go_enter Try.func43, Try.ntmps43
  go_wp2
  go_rounds 1
  go_ret
  exact ⟨rfl, rfl⟩

theorem starts_m (w : World) :
    Calls Try.prog 90 #[.int .u8 109] w fun e w' => e = .returned (.bool true) ∧ w = w' := by
  go_enter Try.func90, Try.ntmps90
  go_wp2
  go_ret
  exact ⟨rfl, rfl⟩

theorem validName_m (w : World) :
    Calls Try.prog 78 #[.string ⟨#[109]⟩] w fun e w' => e = .returned (.bool true) ∧ w = w' := by
  go_enter Try.func78, Try.ntmps78
  go_wp2
  go_rounds 2
  all_goals (go_ret; exact ⟨rfl, rfl⟩)

theorem permitted_m (w : World) :
    Calls Try.prog 59 #[.agg #[.string ⟨#[109]⟩, .string ⟨#[120]⟩]] w fun e w' => e = .returned (.bool true) ∧ w' = w.alloc (.cells #[.string ⟨#[109]⟩, .string ⟨#[120]⟩] 35) := by
  go_enter Try.func59, Try.ntmps59
  go_wp2_with (go_at_call 78; refine (validName_m _).mono ?_; rintro e w' ⟨rfl, rfl⟩)
  go_ret
  exact ⟨rfl, rfl⟩

theorem putEach_nil (w : World) (a : Addr) :
    Calls Try.prog 60 #[.slice none 0 0, .func (.func 61) #[] #[.pointer (some a)]] w fun e w' => e = .returned (.int .i64 (-1)) ∧ w = w' := by
  go_enter Try.func60, Try.ntmps60
  go_wp2
  go_rounds 1
  all_goals (go_ret; exact ⟨rfl, rfl⟩)

theorem put_nil (w : World) :
    Calls Try.prog 30 #[.slice none 0 0, .agg #[.string ⟨#[109]⟩, .string ⟨#[120]⟩]] w fun e w' => ∃ p cap, e = .returned (.tuple #[.slice p 1 cap, .int .i64 0]) ∧ Below w.heap.size w w' := by
  have hs : ∀ W : World, (W.cell? ⟨w.heap.size + 1 + 1, 0, none⟩ = some (.string ⟨#[109]⟩)) → (W.cell? ⟨w.heap.size + 1 + 1, 1, none⟩ = some (.string ⟨#[120]⟩)) →
      Calls Try.prog 50 #[.slice none 0 0, .int .i64 0, .int .i64 0, .slice (some ⟨w.heap.size + 1 + 1, 0, none⟩) 1 1] W fun e w' => ∃ p cap, e = .returned (.slice p 1 cap) ∧ Below W.heap.size W w' := by
    intro W g1 g2
    refine (splice_any none (some ⟨w.heap.size + 1 + 1, 0, none⟩) 0 1 0 0 [] [(⟨#[109]⟩, ⟨#[120]⟩)] W (Nat.le_refl _) (Nat.zero_le _) (Nat.le_refl _) (by decide) (fun h => absurd h (by decide)) (fun _ => ⟨_, _, rfl, ?_⟩) (by decide) (by decide)).mono ?_
    · intro j v hj
      match j with
      | 0 => simp [srcCells] at hj; subst hj; exact g1
      | 1 => simp [srcCells] at hj; subst hj; exact g2
      | j + 2 => simp [srcCells] at hj
    · rintro e w' ⟨v, rfl, ⟨p, cap, rfl, _, _, _⟩, hb⟩
      exact ⟨_, _, rfl, hb⟩
  have HS := Lib.hid hs
  clear hs
  go_enter Try.func30, Try.ntmps30
  go_wp2_with fail
  refine (check_nil _).mono ?_
  rintro e w' ⟨rfl, rfl⟩
  go_wp2_with fail
  refine (permitted_m _).mono ?_
  rintro e w' ⟨rfl, rfl⟩
  go_wp2_with fail
  refine (putEach_nil _ _).mono ?_
  rintro e w' ⟨rfl, rfl⟩
  go_wp2_with fail
  refine (HS.out _ (by simp [go_sem]) (by simp [go_sem])).mono ?_
  rintro e w1 ⟨p, cp, rfl, hb⟩
  have HB := Lib.hid hb
  clear hb
  go_wp2_with fail
  go_ret2
  refine ⟨_, _, rfl, ?_⟩
  exact (((((Below.refl _ _).alloc (Nat.le_refl _) _).alloc (by simp) _).alloc (by simp; omega) _).trans (HB.out.mono (by simp; omega)))

theorem awake_any (w : World) :
    Calls Try.prog 9 #[] w fun e w' => e = .returned (.bool true) ∧ Below w.heap.size w w' := by
  go_enter Try.func9, Try.ntmps9
  go_wp2_with fail
  refine (diff_awake _).mono ?_
  rintro e w1 ⟨rfl, m, hw⟩
  have HW := Lib.hid hw
  clear hw
  go_wp2_with fail
  refine (line_awake _).mono ?_
  rintro e w' ⟨rfl, rfl⟩
  go_wp2_with fail
  refine (put_nil _).mono ?_
  rintro e w2 ⟨p, cp, rfl, hb⟩
  have HB := Lib.hid hb
  clear hb
  go_wp2_with fail
  go_ret
  refine ⟨rfl, ?_⟩
  have h := HB.out
  rw [HW.out] at h
  exact (below_drewN (Below.refl _ _) m).trans h

end Go.Proofs.Ytflcpcefjliijaa
