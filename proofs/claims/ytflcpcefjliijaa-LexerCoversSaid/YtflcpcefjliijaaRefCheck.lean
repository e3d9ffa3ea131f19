/-
  CONTRACT: the reference's Check.
-/
import Derived.Test.YtflcpcefjliijaaCheck
namespace Go.Proofs.Ytflcpcefjliijaa
open Go.RowKit
set_option linter.unusedVariables false

/-- what the reference asks of a module and the one before, in the order in which it asks -/
theorem ok_first (L : List Src) (nm tx : ByteArray) (h : L.getD 0 empty2 = (nm, tx)) : okSrc L 0 = (nameB nm && decide (tx.size ≤ 20000)) := by
  unfold okSrc; rw [h]; simp [permB]
theorem ok_later (L : List Src) (j : Nat) (hj : 0 < j) (nm tx nm' : ByteArray) (h : L.getD j empty2 = (nm, tx)) (h' : (L.getD (j - 1) empty2).1 = nm') :
    okSrc L j = (nameB nm && decide (tx.size ≤ 20000) && !(Op.bytesLess nm.toList nm'.toList || nm.toList == nm'.toList)) := by
  unfold okSrc
  rw [h, h', decide_eq_false (by omega)]
  have := less_total nm'.toList nm.toList
  have e : ltS nm' nm = !(Op.bytesLess nm.toList nm'.toList || nm.toList == nm'.toList) := by
    rw [← this]; simp [ltS]
  rw [Bool.false_or, e]
  rfl

set_option maxHeartbeats 1000000 in
theorem refCheck_any (p : Option Addr) (n cap : Nat) (L : List Src) (w : World) (hc : n ≤ 4611686018427387904) (hl : SrcIs w (.slice p n cap) L) (hf : Fits L) :
    Calls Try.prog 44 #[.slice p n cap] w fun e w' => e = .returned (.int .i64 (chk L)) ∧ Below w.heap.size w w' := by
  obtain ⟨hn, hc1, hc2, hlies⟩ := hl.lies
  have Hn := Lib.hid hn
  clear hn hl
  go_enter Try.func44, Try.ntmps44
  go_wp2
  go_loopw [3] (fun i wr => ∃ j : Nat, j ≤ n ∧ i = .int .i64 j ∧ Hid (validTo L j = true) ∧ Hid (Below w.heap.size w wr)) (fun i _ => n - (intOf i).toNat)
  case atStart => exact ⟨0, Nat.zero_le _, rfl, rfl, Below.refl _ _⟩
  case round =>
    obtain ⟨j, hj, rfl, hg, hb⟩ := hrel
    have hend : ∀ k, Hid (Below w.heap.size w (wr.drewN k)) := fun k => below_drewN hb.out k
    by_cases hlt : j < n
    · obtain ⟨b, off, rfl, hcells0⟩ := hlies (by omega)
      have hcells := hcells0.below hb.out
      have hjl : j < L.length := by rw [← Hn.out]; exact hlt
      have c0 := hcells.name j hjl
      have c1 := hcells.text j hjl
      have hfit := hf.at j hjl
      have i1 : (j : Int) < (n : Int) := by omega
      have Hlies := Lib.hid hlies
      by_cases hj0 : j = 0
      · subst hj0
        generalize hx : L.getD 0 empty2 = x at *
        obtain ⟨nm, tx⟩ := x
        have hok := Lib.hid (ok_first L nm tx hx)
        obtain ⟨f1, f2⟩ := hfit
        unfold maxLen at f2
        simp only [Nat.zero_mul, Nat.add_zero] at c0 c1
        have HJ := Lib.hid hjl
        have Hcells := Lib.hid hcells
        clear hlies hcells hcells0 hx hjl
        by_cases hpm : nameB nm = true
        · by_cases hsz : tx.size ≤ 20000
          · have ds : decide (20000 < tx.size) = false := by simpa using hsz
            have ds' : decide ((20000 : Int) < (tx.size : Int)) = false := by simp; omega
            have hg' : Hid (validTo L (0 + 1) = true) := validTo_step L 0 hg.out (by rw [hok.out, hpm]; simpa using hsz)
            go_wp2
            go_quiet ((go_at_call 65; exact Calls.quiet_of_same (named_any _ _ f1)))
            go_wp2
            go_roundw
            case rel => exact ⟨0 + 1, by omega, by go_num, hg'.out, (hend _).out⟩
            case measure => simp [intOf]; omega
          · have ds' : decide ((20000 : Int) < (tx.size : Int)) = true := by simp; omega
            have hbad : Hid (chk L = 1) := chk_bad L 0 (by rw [hok.out, hpm]; simp; omega) HJ.out
            go_wp2
            go_quiet ((go_at_call 65; exact Calls.quiet_of_same (named_any _ _ f1)))
            go_wp2
            go_ret
            exact ⟨by rw [hbad.out]; rfl, (hend _).out⟩
        · have hpm' : nameB nm = false := by simpa using hpm
          have hbad : Hid (chk L = 1) := chk_bad L 0 (by rw [hok.out, hpm']; simp) HJ.out
          clear hpm
          go_wp2
          go_quiet ((go_at_call 65; exact Calls.quiet_of_same (named_any _ _ f1)))
          go_wp2
          go_ret
          exact ⟨by rw [hbad.out]; rfl, (hend _).out⟩
      · have hjl' : j - 1 < L.length := by omega
        have cp := hcells.name (j - 1) hjl'
        have hjn : 0 < j := by omega
        have HH := ok_later L j hjn
        generalize hx : L.getD j empty2 = x at *
        generalize hy : (L.getD (j - 1) empty2).1 = nm' at *
        obtain ⟨nm, tx⟩ := x
        have hok := Lib.hid (HH nm tx nm' rfl rfl)
        obtain ⟨f1, f2⟩ := hfit
        unfold maxLen at f2
        have dj : decide (0 < j) = true := by simpa using hjn
        have n0 : (0 : Int) < (j : Int) := by omega
        have n1 : (0 : Int) ≤ (j : Int) - 1 := by omega
        have n2 : (j : Int) - 1 < (n : Int) := by omega
        have n4 : (1 : Int) ≤ (j : Int) := by omega
        have HJ := Lib.hid hjl
        have Hcells := Lib.hid hcells
        clear hlies hcells hcells0 hx hy hjl hjl' hj0 HH
        by_cases hpm : nameB nm = true
        · by_cases hsz : tx.size ≤ 20000
          · have ds' : decide ((20000 : Int) < (tx.size : Int)) = false := by simp; omega
            by_cases hA : Op.bytesLess nm.toList nm'.toList = true
            · have hbad : Hid (chk L = 1) := chk_bad L j (by rw [hok.out, hpm, hA]; simp) HJ.out
              go_wp2
              go_quiet ((go_at_call 65; exact Calls.quiet_of_same (named_any _ _ f1)))
              go_wp2
              go_ret
              exact ⟨by rw [hbad.out]; rfl, (hend _).out⟩
            · have hA' : Op.bytesLess nm.toList nm'.toList = false := by simpa using hA
              clear hA
              by_cases hB : (nm.toList == nm'.toList) = true
              · have hbad : Hid (chk L = 1) := chk_bad L j (by rw [hok.out, hpm, hA', hB]; simp) HJ.out
                have hBe : nm.toList = nm'.toList := by simpa using hB
                go_wp2
                go_quiet ((go_at_call 65; exact Calls.quiet_of_same (named_any _ _ f1)))
                go_wp2
                go_ret
                exact ⟨by rw [hbad.out]; rfl, (hend _).out⟩
              · have hB' : (nm.toList == nm'.toList) = false := by simpa using hB
                have hg' : Hid (validTo L (j + 1) = true) := validTo_step L j hg.out (by rw [hok.out, hpm, hA', hB']; simpa using hsz)
                clear hB
                go_wp2
                go_quiet ((go_at_call 65; exact Calls.quiet_of_same (named_any _ _ f1)))
                go_wp2
                go_roundw
                case rel => exact ⟨j + 1, by omega, by go_num, hg'.out, (hend _).out⟩
                case measure => simp [intOf]; omega
          · have ds' : decide ((20000 : Int) < (tx.size : Int)) = true := by simp; omega
            have hbad : Hid (chk L = 1) := chk_bad L j (by rw [hok.out, hpm]; simp; omega) HJ.out
            go_wp2
            go_quiet ((go_at_call 65; exact Calls.quiet_of_same (named_any _ _ f1)))
            go_wp2
            go_ret
            exact ⟨by rw [hbad.out]; rfl, (hend _).out⟩
        · have hpm' : nameB nm = false := by simpa using hpm
          have hbad : Hid (chk L = 1) := chk_bad L j (by rw [hok.out, hpm']; simp) HJ.out
          clear hpm
          go_wp2
          go_quiet ((go_at_call 65; exact Calls.quiet_of_same (named_any _ _ f1)))
          go_wp2
          go_ret
          exact ⟨by rw [hbad.out]; rfl, (hend _).out⟩
    · have hje : j = n := by omega
      have hend0 : Hid (chk L = 0) := chk_good L (by rw [← Hn.out, ← hje]; exact hg.out)
      clear hje
      go_wp2
      go_ret
      exact ⟨by rw [hend0.out]; rfl, hb.out⟩
end Go.Proofs.Ytflcpcefjliijaa
