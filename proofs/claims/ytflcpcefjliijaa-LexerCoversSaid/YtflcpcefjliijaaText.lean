/-
  CONTRACT: Text.
-/
import Derived.Test.YtflcpcefjliijaaWrong
namespace Go.Proofs.Ytflcpcefjliijaa
open Go Go.RowKit
set_option linter.unusedVariables false
set_option linter.unusedSimpArgs false

set_option maxRecDepth 100000 in
set_option maxHeartbeats 1000000 in
theorem text_any (d : Dice) (w : World) (hd : DiceAt d w) (hrow : ∀ b o, d.p = some ⟨b, o, none⟩ → b < w.heap.size) :
    Calls Try.prog 23 #[.pointer (some ⟨d.D, 0, none⟩)] w fun e w' => ∃ s : ByteArray, e = .returned (.string s) ∧ s.size ≤ 12496 ∧ Fd d w w' := by
  have HD := Lib.hid hd
  have HROW := Lib.hid hrow
  have hDlt : Hid (d.D < w.heap.size) := (World.block_lt_of_cell? w _ hd.at_ : d.D < w.heap.size)
  clear hd hrow
  go_enter Try.func23, Try.ntmps23
  go_wp2_with fail
  refine (wrong_any d w HD.out HROW.out).mono ?_
  rintro e w1 ⟨L, v, rfl, hp⟩
  have HP := Lib.hid hp
  clear hp
  obtain ⟨p, n, cap, rfl, hn, hpc, hpb⟩ := HP.out.1.open
  have HN := Lib.hid hn
  clear hn hpc hpb
  go_wp2_with fail
  refine (next_any d n _ HP.out.2.2.2.dice (by have := HP.out.len; rw [HN.out]; omega) (by have := HP.out.len; rw [HN.out]; omega)).mono ?_
  rintro e w2 ⟨k, hk, rfl, ht, -⟩
  have own2 := HP.out.1.thrown ht hDlt.out
  have hkL : k < L.length := by rw [← HN.out]; exact hk
  obtain ⟨_, _, _, hlies⟩ := own2.srcs.lies
  obtain ⟨b, off, rfl, hcells⟩ := hlies (by omega)
  have c1 := hcells.text k hkL
  have hk1 : (k : Int) < (n : Int) := by omega
  have HR : Hid (Fd d w w2) := HP.out.2.2.2.trans (Fd.thrown HP.out.2.2.2.dice ht)
  have hsz : (L.getD k empty2).2.size ≤ 12496 := HP.out.2.1 k hkL
  clear ht own2 hlies hcells HP HN hkL
  go_wp2_with fail
  go_ret
  exact ⟨_, rfl, hsz, HR.out⟩
end Go.Proofs.Ytflcpcefjliijaa
