/-
  CONTRACTS: source.Check and its reference.
-/
import Derived.Test.YtflcpcefjliijaaName
import Derived.Test.YtflcpcefjliijaaCheckPlain
import Derived.Test.YtflcpcefjliijaaGrow
namespace Go.Proofs.Ytflcpcefjliijaa
open Go.RowKit
set_option linter.unusedVariables false

theorem permitted_any (n t : ByteArray) (w : World) (hs : n.size ≤ maxLen) (ht : t.size ≤ maxLen) :
    Calls Try.prog 59 #[.agg #[.string n, .string t]] w fun e w' => e = .returned (.bool (permB (n, t))) ∧ w' = w.alloc (.cells #[.string n, .string t] 35) := by
  unfold maxLen at ht
  by_cases hn : nameB n = true
  · have hp : ∀ b, b = decide ((t.size : Int) ≤ 20000) → Ending.returned (.bool b) = .returned (.bool (permB (n, t))) := by
      intro b hb; rw [hb]; unfold permB; rw [hn]; congr 2; simp; omega
    have HP := Lib.hid hp
    clear hp
    go_enter Try.func59, Try.ntmps59
    go_wp2_with (go_at_call 78; refine (validName_any _ _ hs).mono ?_; rintro e w' ⟨rfl, rfl⟩)
    all_goals go_ret
    all_goals exact ⟨HP.out _ (by simp), rfl⟩
  · have hn' : nameB n = false := by simpa using hn
    have hp : Ending.returned (.bool false) = .returned (.bool (permB (n, t))) := by unfold permB; rw [hn']; rfl
    have HP := Lib.hid hp
    clear hp hn
    go_enter Try.func59, Try.ntmps59
    go_wp2_with (go_at_call 78; refine (validName_any _ _ hs).mono ?_; rintro e w' ⟨rfl, rfl⟩)
    all_goals go_ret
    all_goals exact ⟨HP.out, rfl⟩

set_option maxHeartbeats 1000000 in
theorem check_any (p : Option Addr) (n cap : Nat) (L : List Src) (w : World) (hc : n ≤ 4611686018427387904) (hl : SrcIs w (.slice p n cap) L) (hf : Fits L) :
    Calls Try.prog 43 #[.slice p n cap] w fun e w' => e = .returned (.int .i64 (chk L)) ∧ Below w.heap.size w w' := by
  obtain ⟨hn, hc1, hc2, hlies⟩ := hl.lies
  have Hn := Lib.hid hn
  clear hn hl
  go_enter Try.func43, Try.ntmps43
  go_wp2
  go_loopw [7] (fun i wr => ∃ j : Nat, j ≤ n ∧ i = .int .i64 j ∧ Hid (validTo L j = true) ∧ Hid (Below w.heap.size w wr)) (fun i _ => n - (intOf i).toNat)
  case atStart => exact ⟨0, Nat.zero_le _, rfl, rfl, Below.refl _ _⟩
  case round =>
    obtain ⟨j, hj, rfl, hg, hb⟩ := hrel
    by_cases hlt : j < n
    · obtain ⟨b, off, rfl, hcells0⟩ := hlies (by omega)
      have hcells := hcells0.below hb.out
      have hjl : j < L.length := by rw [← Hn.out]; exact hlt
      have c0 := hcells.name j hjl
      have c1 := hcells.text j hjl
      have hfit := hf.at j hjl
      by_cases hj0 : j = 0
      · subst hj0
        have hok : Hid (okSrc L 0 = permB (L.getD 0 empty2)) := by
          show okSrc L 0 = _
          unfold okSrc
          simp
        generalize L.getD 0 empty2 = x at *
        obtain ⟨nm, tx⟩ := x
        obtain ⟨f1, f2⟩ := hfit
        have Hlies := Lib.hid hlies
        have Hcells := Lib.hid hcells
        simp only [Nat.zero_mul, Nat.add_zero] at c0 c1
        clear hlies hcells hcells0
        have hn0 := fun q => cell_grew (w := wr.alloc (.cells #[.string nm, .string tx] 35)) (a := ⟨wr.heap.size, 0, none⟩) (v := .string nm) (by simp [go_sem]) q
        have hn1 := fun q => cell_grew (w := wr.alloc (.cells #[.string nm, .string tx] 35)) (a := ⟨wr.heap.size, 1, none⟩) (v := .string tx) (by simp [go_sem]) q
        by_cases hpm : permB (nm, tx) = true
        · have hg' : Hid (validTo L (0 + 1) = true) := validTo_step L 0 hg.out (by rw [hok.out, hpm])
          go_wp2
          refine wp_region_grew (by kernel_rfl) (by kernel_rfl) ?_
          repeat (go_big_quiet_step ((go_at_call 59; exact Calls.grew_of ((permitted_any _ _ _ f1 f2).mono fun _ _ ⟨he, hw⟩ => ⟨he, by rw [hw]; exact (Below.refl _ _).alloc (Nat.le_refl _) _⟩))))
          refine wpQuiet_nil ?_
          intro w1 hq
          have HQ := Lib.hid (of_grew hq)
          clear hq
          go_wp2
          go_roundw
          case rel => exact ⟨0 + 1, by omega, by go_num, hg'.out, ((hb.out.alloc hb.out.size _).trans (HQ.out.mono (by simp; have := hb.out.size; omega)))⟩
          case measure => simp [intOf]; omega
        · have hpm' : permB (nm, tx) = false := by simpa using hpm
          have hbad : Hid (chk L = 1) := chk_bad L 0 (by rw [hok.out, hpm']) hjl
          clear hpm
          go_wp2
          refine wp_region_grew (by kernel_rfl) (by kernel_rfl) ?_
          repeat (go_big_quiet_step ((go_at_call 59; exact Calls.grew_of ((permitted_any _ _ _ f1 f2).mono fun _ _ ⟨he, hw⟩ => ⟨he, by rw [hw]; exact (Below.refl _ _).alloc (Nat.le_refl _) _⟩))))
          refine wpQuiet_nil ?_
          intro w1 hq
          have HQ := Lib.hid (of_grew hq)
          clear hq
          go_wp2
          go_ret
          exact ⟨by rw [hbad.out]; rfl, ((hb.out.alloc hb.out.size _).trans (HQ.out.mono (by simp; have := hb.out.size; omega)))⟩
      · have hjl' : j - 1 < L.length := by omega
        have cp := hcells.name (j - 1) hjl'
        have hok : Hid (okSrc L j = (permB (L.getD j empty2) && ltS (L.getD (j - 1) empty2).1 (L.getD j empty2).1)) := by
          show okSrc L j = _
          unfold okSrc
          rw [decide_eq_false hj0]
          rfl
        have HJL := Lib.hid hjl
        generalize L.getD j empty2 = x at *
        generalize L.getD (j - 1) empty2 = y at *
        obtain ⟨nm, tx⟩ := x
        obtain ⟨nm', tx'⟩ := y
        have ej : ((j : Int) == 0) = false := by simpa using hj0
        have hjp : (0 : Int) < (j : Int) := by omega
        obtain ⟨f1, f2⟩ := hfit
        have Hlies := Lib.hid hlies
        have Hcells := Lib.hid hcells
        have hn0 := fun q => cell_grew (w := wr.alloc (.cells #[.string nm, .string tx] 35)) (a := ⟨wr.heap.size, 0, none⟩) (v := .string nm) (by simp [go_sem]) q
        have hn1 := fun q => cell_grew (w := wr.alloc (.cells #[.string nm, .string tx] 35)) (a := ⟨wr.heap.size, 1, none⟩) (v := .string tx) (by simp [go_sem]) q
        have hn2 := fun q => cell_grew (w := wr.alloc (.cells #[.string nm, .string tx] 35)) (a := ⟨b, off + (j - 1) * 2, none⟩) (v := .string nm') (by rw [((Below.refl wr.heap.size wr).alloc (Nat.le_refl _) _).cell (World.block_lt_of_cell? wr _ cp)]; exact cp) q
        clear hlies hcells hcells0 hjl' hj0 hjl cp
        have dj : decide (0 < j) = true := by simpa using hjp
        have n1 : (0 : Int) ≤ (j : Int) - 1 := by omega
        have n2 : (j : Int) - 1 < (n : Int) := by omega
        have n4 : (1 : Int) ≤ (j : Int) := by omega
        by_cases hpm : permB (nm, tx) = true
        · by_cases hlt2 : Op.bytesLess nm'.toList nm.toList = true
          · have hg' : Hid (validTo L (j + 1) = true) := validTo_step L j hg.out (by rw [hok.out, hpm]; exact hlt2)
            go_wp2
            refine wp_region_grew (by kernel_rfl) (by kernel_rfl) ?_
            repeat (go_big_quiet_step ((go_at_call 59; exact Calls.grew_of ((permitted_any _ _ _ f1 f2).mono fun _ _ ⟨he, hw⟩ => ⟨he, by rw [hw]; exact (Below.refl _ _).alloc (Nat.le_refl _) _⟩))))
            refine wpQuiet_nil ?_
            intro w1 hq
            have HQ := Lib.hid (of_grew hq)
            clear hq
            go_wp2
            go_roundw
            case rel => exact ⟨j + 1, by omega, by go_num, hg'.out, ((hb.out.alloc hb.out.size _).trans (HQ.out.mono (by simp; have := hb.out.size; omega)))⟩
            case measure => simp [intOf]; omega
          · have hlt2' : Op.bytesLess nm'.toList nm.toList = false := by simpa using hlt2
            have hbad : Hid (chk L = 1) := chk_bad L j (by rw [hok.out]; unfold ltS; simp only [hlt2']; simp) HJL.out
            clear hlt2
            go_wp2
            refine wp_region_grew (by kernel_rfl) (by kernel_rfl) ?_
            repeat (go_big_quiet_step ((go_at_call 59; exact Calls.grew_of ((permitted_any _ _ _ f1 f2).mono fun _ _ ⟨he, hw⟩ => ⟨he, by rw [hw]; exact (Below.refl _ _).alloc (Nat.le_refl _) _⟩))))
            refine wpQuiet_nil ?_
            intro w1 hq
            have HQ := Lib.hid (of_grew hq)
            clear hq
            go_wp2
            go_ret
            exact ⟨by rw [hbad.out]; rfl, ((hb.out.alloc hb.out.size _).trans (HQ.out.mono (by simp; have := hb.out.size; omega)))⟩
        · have hpm' : permB (nm, tx) = false := by simpa using hpm
          have hbad : Hid (chk L = 1) := chk_bad L j (by rw [hok.out, hpm']; rfl) HJL.out
          clear hpm
          go_wp2
          refine wp_region_grew (by kernel_rfl) (by kernel_rfl) ?_
          repeat (go_big_quiet_step ((go_at_call 59; exact Calls.grew_of ((permitted_any _ _ _ f1 f2).mono fun _ _ ⟨he, hw⟩ => ⟨he, by rw [hw]; exact (Below.refl _ _).alloc (Nat.le_refl _) _⟩))))
          refine wpQuiet_nil ?_
          intro w1 hq
          have HQ := Lib.hid (of_grew hq)
          clear hq
          go_wp2
          go_ret
          exact ⟨by rw [hbad.out]; rfl, ((hb.out.alloc hb.out.size _).trans (HQ.out.mono (by simp; have := hb.out.size; omega)))⟩
    · have hje : j = n := by omega
      have hend : Hid (chk L = 0) := chk_good L (by rw [← Hn.out, ← hje]; exact hg.out)
      clear hje
      go_wp2
      go_ret
      exact ⟨by rw [hend.out]; rfl, hb.out⟩
end Go.Proofs.Ytflcpcefjliijaa
