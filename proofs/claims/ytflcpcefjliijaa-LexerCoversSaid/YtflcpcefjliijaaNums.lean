/-
  NUMBERS: how long expressions and blocks of small depth are at most.
-/
import Derived.Test.YtflcpcefjliijaaBlock
namespace Go.Proofs.Ytflcpcefjliijaa
open Go Go.RowKit
set_option linter.unusedVariables false

theorem MakesAt.down {f : FuncId} {lo d d' : Int} {B : Nat} (h : MakesAt f lo d B) (hd : d' ≤ d) : MakesAt f lo d' B := fun g k p n cap w h1 h2 h3 h4 h5 => h g k p n cap w (by omega) h2 h3 h4 h5
theorem int_m1 : MakesAt 62 (-1) (0 - 1) 8 := int0_any.down (by omega)
theorem blk_0 : MakesAt 34 0 0 174 := block_step 0 (by omega) 8 174 (by omega) int_m1 (by omega)
theorem bool_0 : MakesAt 80 0 0 26 := bool_step 0 (by omega) 8 0 26 (by omega) (by omega) int_m1 (fun h => absurd h (by omega)) (by omega) (by omega) (by omega)
theorem shown_0 : MakesAt 81 0 0 18 := shown_step 0 (by omega) 8 0 18 (by omega) (by omega) int_m1 (fun h => absurd h (by omega)) (by omega) (by omega) (by omega)
theorem int_1 : MakesAt 62 (-1) 1 174 := int_step 1 (by omega) (by omega) 8 26 174 18 174 (by omega) (by omega) (by omega) (by omega) (int0_any.down (by omega)) (bool_0.down (by omega)) (blk_0.down (by omega)) (shown_0.down (by omega)) (by omega) (by omega) (by omega) (by omega) (by omega)
theorem blk_1 : MakesAt 34 0 1 174 := block_step 1 (by omega) 8 174 (by omega) (int0_any.down (by omega)) (by omega)
theorem bool_1 : MakesAt 80 0 1 42 := bool_step 1 (by omega) 8 26 42 (by omega) (by omega) (int0_any.down (by omega)) (fun _ => bool_0.down (by omega)) (by omega) (by omega) (by omega)
theorem shown_1 : MakesAt 81 0 1 27 := shown_step 1 (by omega) 8 18 27 (by omega) (by omega) (int0_any.down (by omega)) (fun _ => shown_0.down (by omega)) (by omega) (by omega) (by omega)
theorem int_2 : MakesAt 62 (-1) 2 408 := int_step 2 (by omega) (by omega) 174 42 174 27 408 (by omega) (by omega) (by omega) (by omega) (int_1.down (by omega)) (bool_1.down (by omega)) (blk_1.down (by omega)) (shown_1.down (by omega)) (by omega) (by omega) (by omega) (by omega) (by omega)
theorem blk_2 : MakesAt 34 0 2 672 := block_step 2 (by omega) 174 672 (by omega) (int_1.down (by omega)) (by omega)
theorem bool_2 : MakesAt 80 0 2 192 := bool_step 2 (by omega) 174 42 192 (by omega) (by omega) (int_1.down (by omega)) (fun _ => bool_1.down (by omega)) (by omega) (by omega) (by omega)
theorem shown_2 : MakesAt 81 0 2 174 := shown_step 2 (by omega) 174 27 174 (by omega) (by omega) (int_1.down (by omega)) (fun _ => shown_1.down (by omega)) (by omega) (by omega) (by omega)
theorem int_3 : MakesAt 62 (-1) 3 1026 := int_step 3 (by omega) (by omega) 408 192 672 174 1026 (by omega) (by omega) (by omega) (by omega) (int_2.down (by omega)) (bool_2.down (by omega)) (blk_2.down (by omega)) (shown_2.down (by omega)) (by omega) (by omega) (by omega) (by omega) (by omega)
theorem blk_3 : MakesAt 34 0 3 1374 := block_step 3 (by omega) 408 1374 (by omega) (int_2.down (by omega)) (by omega)
end Go.Proofs.Ytflcpcefjliijaa
