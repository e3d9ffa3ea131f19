/-
  CONTRACTS: the sanity check of layer 2's statements; joined tokens are read again.
-/
import Derived.Test.YtflcpcefjliijaaLexF
namespace Go.Proofs.Ytflcpcefjliijaa
open Go.RowKit
set_option linter.unusedVariables false

def awakeText : ByteArray := ⟨#[97, 49, 60, 61, 50, 32, 47, 47, 32, 120, 10, 32, 105, 102]⟩
theorem awake_toks : tokList awakeText = [⟨1, ⟨#[97, 49]⟩, 0⟩, ⟨4, ⟨#[60]⟩, 2⟩, ⟨4, ⟨#[61]⟩, 3⟩, ⟨3, ⟨#[50]⟩, 4⟩, ⟨2, ⟨#[105, 102]⟩, 12⟩, ⟨0, ByteArray.empty, 14⟩] := by kernel_rfl
theorem res_impl : Lx.resL [105, 109, 112, 108] = true := by kernel_rfl
theorem res_main : Lx.resL [109, 97, 105, 110] = false := by kernel_rfl

set_option maxHeartbeats 1000000 in
set_option maxRecDepth 100000 in
theorem awake02_any (w : World) :
    Calls Try.prog 22 #[] w fun e w' => e = .returned (.bool true) ∧ Below w.heap.size w w' := by
  go_enter Try.func22, Try.ntmps22
  go_wp2_with fail
  refine (tokens_any awakeText _ (by decide)).mono ?_
  rintro e w1 ⟨v, rfl, hv, hb⟩
  rw [awake_toks] at hv
  obtain ⟨p, cap, rfl, hc1, hc2, hl⟩ := hv
  obtain ⟨b, off, rfl, hcells⟩ := hl (by simp)
  have t0 := tok_cells hcells 0 (by simp)
  have t1 := tok_cells hcells 1 (by simp)
  have t2 := tok_cells hcells 2 (by simp)
  have t3 := tok_cells hcells 3 (by simp)
  have t4 := tok_cells hcells 4 (by simp)
  have t5 := tok_cells hcells 5 (by simp)
  simp [List.getD] at t0 t1 t2 t3 t4 t5
  obtain ⟨t00, t01, t02⟩ := t0
  obtain ⟨t10, t11, t12⟩ := t1
  obtain ⟨t20, t21, t22⟩ := t2
  obtain ⟨t30, t31, t32⟩ := t3
  obtain ⟨t40, t41, t42⟩ := t4
  obtain ⟨t50, t51, t52⟩ := t5
  have HB := Lib.hid hb
  have HC := Lib.hid hcells
  clear hb hcells hl t02 t10 t12 t20 t22 t31 t32 t41 t51 t52
  go_wp2_with fail
  refine (lexReserved_any _ _).mono ?_
  rintro e w' ⟨rfl, rfl⟩
  rw [show Lx.resL (⟨#[105, 109, 112, 108]⟩ : ByteArray).data.toList = true from res_impl]
  go_wp2_with fail
  refine (lexReserved_any _ _).mono ?_
  rintro e w' ⟨rfl, rfl⟩
  rw [show Lx.resL (⟨#[109, 97, 105, 110]⟩ : ByteArray).data.toList = false from res_main]
  go_wp2_with fail
  go_ret
  exact ⟨rfl, HB.out⟩
end Go.Proofs.Ytflcpcefjliijaa
