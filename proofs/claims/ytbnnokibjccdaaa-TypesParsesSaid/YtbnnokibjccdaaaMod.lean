/-
  CONTRACTS: the remainder from 0 on.
-/
import Derived.Test.YtbnnokibjccdaaaBase
import Derived.Test.YtbnnokibjccdaaaChecked
import Derived.WalkKit
import Derived.WalkSpells
import Derived.WalkLawsBesides
import Derived.BigQuiet
import Derived.Lib.Hide
import Derived.KernelRfl
namespace Go.Proofs.Ytbnnokibjccdaaa
open Go.RowKit
set_option linter.unusedVariables false

/-- made.Mod: a number from 0 on, below n -/
theorem mod_any (x n : Int) (h1 : 1 ≤ n) (h2 : n ≤ 4611686018427387904) (hx : -9223372036854775808 ≤ x) (hx2 : x ≤ 9223372036854775807) :
    ∃ k : Int, (∀ w : World, Calls Try.prog 19 #[.int .i64 x, .int .i64 n] w fun e w' => e = .returned (.int .i64 k) ∧ w = w') ∧ 0 ≤ k ∧ k < n := by
  by_cases h0 : 0 ≤ x
  · have b1 := Int.emod_nonneg x (show n ≠ 0 by omega)
    have b2 := Int.emod_lt_of_pos x (show 0 < n by omega)
    refine ⟨x % n, fun w => ?_, b1, b2⟩
    go_enter Try.func19, Try.ntmps19
    go_wp2
    go_ret
    exact ⟨rfl, rfl⟩
  · have b1 : -n < x.tmod n := by have := Int.lt_tmod_of_pos x (show 0 < n by omega); omega
    have b2 : x.tmod n ≤ 0 := by
      have := Int.tmod_nonneg (a := -x) n (by omega)
      rw [Int.neg_tmod] at this
      omega
    have e1 : IntKind.i64.wrap (x.tmod n) = x.tmod n := IntWalk.i64_in _ (by omega)
    have hm : ∀ w : World, Calls Try.prog 19 #[.int .i64 x, .int .i64 n] w fun e w' => e = .returned (.int .i64 (if x.tmod n < 0 then x.tmod n + n else x.tmod n)) ∧ w = w' := by
      intro w
      by_cases hz : x.tmod n < 0
      · rw [if_pos hz]
        go_enter Try.func19, Try.ntmps19
        go_wp2
        go_ret
        exact ⟨rfl, rfl⟩
      · rw [if_neg hz]
        go_enter Try.func19, Try.ntmps19
        go_wp2
        go_ret
        exact ⟨rfl, rfl⟩
    refine ⟨_, hm, ?_, ?_⟩
    · split <;> omega
    · split <;> omega

end Go.Proofs.Ytbnnokibjccdaaa
