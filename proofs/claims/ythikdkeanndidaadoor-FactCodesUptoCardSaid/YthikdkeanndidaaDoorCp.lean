/-
  CONTRACTS: the reference's SameNumbers and SameCode of equal things.
-/
import Derived.Test.YthikdkeanndidaaDoorCn
import Derived.BigQuiet
namespace Go.Proofs.YthikdkeanndidaaDoor
open Go Go.RowKit
set_option linter.unusedVariables false
set_option linter.unusedSimpArgs false
set_option maxRecDepth 1000000

set_option maxHeartbeats 2000000 in
theorem sameNums_eq (A B : Nat → Prop) (l : List Int) (p1 p2 : Option Addr) (c1 c2 : Nat) (w : World) (h1 : SlA encI A w (.slice p1 l.length c1) l) (h2 : SlA encI B w (.slice p2 l.length c2) l) :
    Calls Tryd.prog 42 #[.slice p1 l.length c1, .slice p2 l.length c2] w fun e w' => e = .returned (.bool true) ∧ Below w.heap.size w w' := by
  obtain ⟨-, hm1, g1⟩ := h1.at_
  obtain ⟨-, hm2, g2⟩ := h2.at_
  unfold maxLen at hm1 hm2
  have G1 := Lib.hid g1
  have G2 := Lib.hid g2
  clear h1 h2 g1 g2
  go_enter Tryd.func42, Tryd.ntmps42
  go_wp2_with fail
  go_loopw [5] (fun i wr => ∃ j : Nat, j ≤ l.length ∧ i = .int .i64 j ∧ Hid (Below w.heap.size w wr)) (fun i _ => l.length - (intOf i).toNat)
  case atStart => exact ⟨0, Nat.zero_le _, rfl, Below.refl _ _⟩
  case round =>
    obtain ⟨j, hj, rfl, HB⟩ := hrel
    obtain ⟨wx, rfl⟩ : ∃ x, x = wr := ⟨wr, rfl⟩
    by_cases hlt : j < l.length
    · have hlti : (j : Int) < (l.length : Int) := by omega
      obtain ⟨b1, o1, rfl, -, a1⟩ := G1.out j hlt
      obtain ⟨b2, o2, rfl, -, a2⟩ := G2.out j hlt
      obtain ⟨x, hx⟩ : ∃ x, x = l[j]'hlt := ⟨_, rfl⟩
      rw [← hx] at a1 a2
      have x1 : wx.cell? ⟨b1, o1 + j, none⟩ = some (.int .i64 x) := by
        have h0 : w.cell? ⟨b1, o1 + j, none⟩ = some (.int .i64 x) := by have := a1 0 _ (by decide) rfl; simpa [encI] using this
        rw [HB.out.cell (World.block_lt_of_cell? w _ h0)]; exact h0
      have x2 : wx.cell? ⟨b2, o2 + j, none⟩ = some (.int .i64 x) := by
        have h0 : w.cell? ⟨b2, o2 + j, none⟩ = some (.int .i64 x) := by have := a2 0 _ (by decide) rfl; simpa [encI] using this
        rw [HB.out.cell (World.block_lt_of_cell? w _ h0)]; exact h0
      have hq : (x != x) = false := by simp
      have HBD := Lib.hid (fun n => bnext HB.out (drew_below (B := wx.heap.size) (w := wx) n))
      clear a1 a2 hx G1 G2
      go_wp2_with fail
      go_quiet (fail)
      go_wp2_with fail
      go_roundw
      case rel => exact ⟨j + 1, by omega, by go_num, HBD.out _⟩
      case measure => simp [intOf]; omega
    · obtain rfl : j = l.length := by omega
      go_wp2_with fail
      go_ret
      exact ⟨rfl, HB.out⟩
end Go.Proofs.YthikdkeanndidaaDoor
