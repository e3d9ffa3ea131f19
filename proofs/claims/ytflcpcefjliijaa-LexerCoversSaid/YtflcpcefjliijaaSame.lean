/-
  CONTRACT: the reference's Same, of two lists that read alike.
-/
import Derived.Test.YtflcpcefjliijaaRefDrop
namespace Go.Proofs.Ytflcpcefjliijaa
open Go.RowKit
set_option linter.unusedVariables false

set_option maxHeartbeats 400000 in
theorem same_any (v1 v2 : Value) (L : List Src) (w : World) (hc : L.length ≤ 4611686018427387904) (h1 : SrcIs w v1 L) (h2 : SrcIs w v2 L) :
    Calls Try.prog 21 #[v1, v2] w fun e w' => e = .returned (.bool true) ∧ Below w.heap.size w w' := by
  obtain ⟨p1, cap1, rfl, _, _, h1'⟩ := h1
  obtain ⟨p2, cap2, rfl, _, _, h2'⟩ := h2
  generalize hn : L.length = n at *
  have Hn := Lib.hid hn
  clear hn
  go_enter Try.func21, Try.ntmps21
  go_wp2
  go_loopw [5] (fun i wr => ∃ j : Nat, j ≤ n ∧ i = .int .i64 j ∧ Hid (Below w.heap.size w wr)) (fun i _ => n - (intOf i).toNat)
  case atStart => exact ⟨0, Nat.zero_le _, rfl, Below.refl _ _⟩
  case round =>
    obtain ⟨j, hj, rfl, hb⟩ := hrel
    by_cases hlt : j < n
    · obtain ⟨b1, off1, rfl, hcells1⟩ := h1' (by omega)
      obtain ⟨b2, off2, rfl, hcells2⟩ := h2' (by omega)
      have hjl : j < L.length := by rw [Hn.out]; exact hlt
      have x0 := (hcells1.below hb.out).name j hjl
      have x1 := (hcells1.below hb.out).text j hjl
      have y0 := (hcells2.below hb.out).name j hjl
      have y1 := (hcells2.below hb.out).text j hjl
      have hi1 : (j : Int) < (n : Int) := by omega
      generalize L.getD j empty2 = x at *
      obtain ⟨na, ta⟩ := x
      have H1 := Lib.hid h1'
      have H2 := Lib.hid h2'
      clear h1' h2' hcells1 hcells2 hjl
      go_wp2_with fail
      go_quiet (fail)
      go_wp2_with fail
      go_roundw
      case rel => exact ⟨j + 1, by omega, by go_num, below_drewN hb.out _⟩
      case measure => simp [intOf]; omega
    · go_wp2
      go_ret
      exact ⟨rfl, hb.out⟩
end Go.Proofs.Ytflcpcefjliijaa
