/-
  CONTRACT: (*Dice).One, where Dice is built in the place of Next.
-/
import Derived.Test.YthikdkeanndidaaDoorDice
namespace Go.Proofs.YthikdkeanndidaaDoor
open Go Go.RowKit
set_option linter.unusedVariables false
set_option maxRecDepth 1000000

theorem one_any (d : Dice) (m : Nat) (w : World) (hd : DiceAt d w) (h1 : 1 ≤ m) (h2 : m ≤ 1000000) :
    Calls Tryd.prog 23 #[.pointer (some ⟨d.D, 0, none⟩), .int .i64 (m : Int)] w fun e w' => ∃ k : Bool, e = .returned (.bool k) ∧ Thrown d w w' := by
  have e1 : IntKind.i64.wrap ((m : Int) - 1) = (m : Int) - 1 := IntWalk.i64_in _ (by omega)
  have HD := Lib.hid hd
  clear hd
  go_enter Tryd.func23, Tryd.ntmps23
  go_wp2_with (go_at_call 8; refine (next_any d m _ HD.out h1 (by omega)).mono ?_; rintro e w1 ⟨k, hk, rfl, ht, -⟩; have HT := Lib.hid ht; clear ht)
  go_ret
  exact ⟨_, rfl, HT.out⟩

end Go.Proofs.YthikdkeanndidaaDoor
