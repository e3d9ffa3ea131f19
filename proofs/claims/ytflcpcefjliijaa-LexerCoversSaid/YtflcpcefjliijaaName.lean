/-
  CONTRACTS: which names are permitted: the program's test and the reference's.
-/
import Derived.Test.YtflcpcefjliijaaSrcs
import Derived.Test.YtflcpcefjliijaaNamePlain
namespace Go.Proofs.Ytflcpcefjliijaa
open Go.RowKit
set_option linter.unusedVariables false


theorem digit_any (c : Int) (w : World) :
    Calls Try.prog 91 #[.int .u8 c] w fun e w' => e = .returned (.bool (digitI c)) ∧ w' = w := by
  go_enter Try.func91, Try.ntmps91
  go_wp2
  all_goals go_ret
  all_goals refine ⟨ret_bool ?_, rfl⟩
  all_goals first | (rw [Bool.eq_iff_iff]; simp [digitI]; omega) | (simp [digitI]; omega)
theorem starts_any (c : Int) (w : World) :
    Calls Try.prog 90 #[.int .u8 c] w fun e w' => e = .returned (.bool (startsI c)) ∧ w' = w := by
  go_enter Try.func90, Try.ntmps90
  go_wp2
  all_goals go_ret
  all_goals refine ⟨ret_bool ?_, rfl⟩
  all_goals first | (rw [Bool.eq_iff_iff]; simp [startsI]; omega) | (simp [startsI]; omega)

set_option maxHeartbeats 400000 in
theorem validName_any (s : ByteArray) (w : World) (hs : s.size ≤ maxLen) :
    Calls Try.prog 78 #[.string s] w fun e w' => e = .returned (.bool (nameB s)) ∧ w' = w := by
  unfold maxLen at hs
  by_cases h0 : s.size = 0
  · have hb := Lib.hid (nameB_len s (by omega))
    have e0 : (((s.size : Nat) : Int) == 0) = true := by simpa using h0
    clear h0
    go_enter Try.func78, Try.ntmps78
    go_wp2
    all_goals go_ret
    all_goals exact ⟨ret_bool (by rw [hb.out]), rfl⟩
  · have e0 : (((s.size : Nat) : Int) == 0) = false := by simpa using h0
    have hp : 0 < s.size := by omega
    clear h0
    by_cases h1 : 40 < s.size
    · have hb := Lib.hid (nameB_len s (by omega))
      go_enter Try.func78, Try.ntmps78
      go_wp2
      all_goals go_ret
      all_goals exact ⟨ret_bool (by rw [hb.out]), rfl⟩
    · go_enter Try.func78, Try.ntmps78
      go_wp2
      go_loop [3, 14] (fun x i => ∃ j : Nat, j ≤ s.size ∧ i = .int .i64 j ∧ Hid (goodTo s j = true)) (fun _ i => s.size - (intOf i).toNat)
      case atStart => exact ⟨0, Nat.zero_le _, rfl, rfl⟩
      case round =>
        obtain ⟨j, hj, rfl, hg⟩ := hrel
        by_cases hlt : j < s.size
        · have hby := Lib.hid (byteI_eq s j hlt)
          by_cases hst : startsI ((s[j]).toNat : Int) = true
          · have hok : Hid (okAt s j = true) := by show okAt s j = true; unfold okAt; rw [hby.out, hst]; rfl
            go_wp2_with (go_at_call 90; refine (starts_any _ _).mono ?_; rintro e w' ⟨rfl, rfl⟩)
            go_round
            case rel => exact ⟨j + 1, by omega, by go_num, goodTo_step s j hg.out hok.out⟩
            case measure => simp [intOf]; omega
          · have hst' : startsI ((s[j]).toNat : Int) = false := by simpa using hst
            clear hst
            by_cases hj0 : j = 0
            · subst hj0
              have hok : Hid (nameB s = false) := nameB_bad s 0 (by unfold okAt; rw [hby.out, hst']; simp) hlt
              go_wp2_with (go_at_call 90; refine (starts_any _ _).mono ?_; rintro e w' ⟨rfl, rfl⟩)
              go_ret
              exact ⟨ret_bool (by rw [hok.out]), rfl⟩
            · have ej : ((j : Int) == 0) = false := by simpa using hj0
              have hjp : 0 < j := by omega
              clear hj0
              by_cases hdg : digitI ((s[j]).toNat : Int) = true
              · have hok : Hid (okAt s j = true) := by show okAt s j = true; unfold okAt; rw [hby.out, hst', hdg]; simp; omega
                go_wp2_with (first | (go_at_call 90; refine (starts_any _ _).mono ?_; rintro e w' ⟨rfl, rfl⟩) | (go_at_call 91; refine (digit_any _ _).mono ?_; rintro e w' ⟨rfl, rfl⟩))
                go_round
                case rel => exact ⟨j + 1, by omega, by go_num, goodTo_step s j hg.out hok.out⟩
                case measure => simp [intOf]; omega
              · have hdg' : digitI ((s[j]).toNat : Int) = false := by simpa using hdg
                clear hdg
                have hok : Hid (nameB s = false) := nameB_bad s j (by unfold okAt; rw [hby.out, hst', hdg']; simp) hlt
                go_wp2_with (first | (go_at_call 90; refine (starts_any _ _).mono ?_; rintro e w' ⟨rfl, rfl⟩) | (go_at_call 91; refine (digit_any _ _).mono ?_; rintro e w' ⟨rfl, rfl⟩))
                go_ret
                exact ⟨ret_bool (by rw [hok.out]), rfl⟩
        · have hje : j = s.size := by omega
          subst hje
          have hb := Lib.hid (nameB_good s (by omega) hg.out)
          go_wp2
          go_ret
          exact ⟨ret_bool (by rw [hb.out]), rfl⟩

theorem ok_cases (c : Int) : (97 ≤ c ∧ c ≤ 122) ∨ (65 ≤ c ∧ c ≤ 90) ∨ (48 ≤ c ∧ c ≤ 57) ∨ c = 95 ∨ (c < 48 ∨ (57 < c ∧ c < 65) ∨ (90 < c ∧ c < 95) ∨ c = 96 ∨ 122 < c) := by omega

set_option maxHeartbeats 800000 in
theorem named_any (s : ByteArray) (w : World) (hs : s.size ≤ maxLen) :
    Calls Try.prog 65 #[.string s] w fun e w' => e = .returned (.bool (nameB s)) ∧ w' = w := by
  unfold maxLen at hs
  by_cases h0 : s.size = 0
  · have hb := Lib.hid (nameB_len s (by omega))
    have e0 : (((s.size : Nat) : Int) == 0) = true := by simpa using h0
    clear h0
    go_enter Try.func65, Try.ntmps65
    go_wp2
    all_goals go_ret
    all_goals exact ⟨ret_bool (by rw [hb.out]), rfl⟩
  · have e0 : (((s.size : Nat) : Int) == 0) = false := by simpa using h0
    have hp : 0 < s.size := by omega
    have hpi : (0 : Int) < s.size := by omega
    clear h0
    by_cases h1 : 40 < s.size
    · have hb := Lib.hid (nameB_len s (by omega))
      go_enter Try.func65, Try.ntmps65
      go_wp2
      all_goals go_ret
      all_goals exact ⟨ret_bool (by rw [hb.out]), rfl⟩
    · by_cases hd : 48 ≤ ((s[0]).toNat : Int) ∧ ((s[0]).toNat : Int) ≤ 57
      · obtain ⟨hd1, hd2⟩ := hd
        have hb : Hid (nameB s = false) := nameB_digit s (by rw [byteI_eq s 0 hp]; simp [digitI]; omega) hp
        go_enter Try.func65, Try.ntmps65
        go_wp2
        all_goals go_ret
        all_goals exact ⟨ret_bool (by rw [hb.out]), rfl⟩
      · have hnd : Hid (digitI (byteI s 0) = false) := by show digitI (byteI s 0) = false; rw [byteI_eq s 0 hp]; simp [digitI]; omega
        have hloop : ∀ w : World, Calls Try.prog 65 #[.string s] w fun e w' => e = .returned (.bool (nameB s)) ∧ w' = w := by
          intro w
          by_cases hd1 : 48 ≤ ((s[0]).toNat : Int)
          all_goals
            have hd2 : 57 < ((s[0]).toNat : Int) ∨ ((s[0]).toNat : Int) < 48 := by omega
            have HD2 := Lib.hid hd2
            clear hd hd2
            go_enter Try.func65, Try.ntmps65
            try have hd3 : 57 < ((s[0]).toNat : Int) := by have := HD2.out; omega
            go_wp2
            go_loop [3, 4] (fun i x => ∃ j : Nat, j ≤ s.size ∧ i = .int .i64 j ∧ Hid (goodTo s j = true)) (fun i _ => s.size - (intOf i).toNat)
            case atStart => exact ⟨0, Nat.zero_le _, rfl, rfl⟩
            case round =>
              obtain ⟨j, hj, rfl, hg⟩ := hrel
              by_cases hlt : j < s.size
              · have hby := Lib.hid (byteI_eq s j hlt)
                have hok := Lib.hid (okAt_ref s j hnd.out)
                rcases ok_cases ((s[j]).toNat : Int) with ⟨a1, a2⟩ | ⟨a1, a2⟩ | ⟨a1, a2⟩ | a1 | a1
                · go_wp2
                  go_round
                  case rel => exact ⟨j + 1, by omega, by go_num, goodTo_step s j hg.out (by rw [hok.out, hby.out]; simp [startsI, digitI]; omega)⟩
                  case measure => simp [intOf]; omega
                · go_wp2
                  go_round
                  case rel => exact ⟨j + 1, by omega, by go_num, goodTo_step s j hg.out (by rw [hok.out, hby.out]; simp [startsI, digitI]; omega)⟩
                  case measure => simp [intOf]; omega
                · go_wp2
                  go_round
                  case rel => exact ⟨j + 1, by omega, by go_num, goodTo_step s j hg.out (by rw [hok.out, hby.out]; simp [startsI, digitI]; omega)⟩
                  case measure => simp [intOf]; omega
                · have a2 : ((s[j]).toNat : Int) ≤ 95 := by omega
                  have a3 : 95 ≤ ((s[j]).toNat : Int) := by omega
                  have a4 : (((s[j]).toNat : Int) == 95) = true := by simp [a1]
                  clear a1
                  go_wp2
                  go_round
                  case rel => exact ⟨j + 1, by omega, by go_num, goodTo_step s j hg.out (by rw [hok.out, hby.out]; simp [startsI, digitI]; omega)⟩
                  case measure => simp [intOf]; omega
                · have hbad : Hid (nameB s = false) := nameB_bad s j (by rw [hok.out, hby.out]; simp [startsI, digitI]; omega) hlt
                  have a4 : (((s[j]).toNat : Int) == 95) = false := by rw [beq_eq_false_iff_ne]; omega
                  have a5 : ((s[j]).toNat : Int) < 48 ∨ (57 < ((s[j]).toNat : Int) ∧ ((s[j]).toNat : Int) < 65) ∨ (90 < ((s[j]).toNat : Int) ∧ ((s[j]).toNat : Int) < 97) ∨ 122 < ((s[j]).toNat : Int) := by omega
                  clear a1
                  rcases a5 with a1 | ⟨a1, a2⟩ | ⟨a1, a2⟩ | a1
                  all_goals (go_wp2; all_goals first | (go_ret; exact ⟨ret_bool (by rw [hbad.out]), rfl⟩) | (exfalso; rename_i hx; simp at hx; omega))
              · have hje : j = s.size := by omega
                subst hje
                have hb := Lib.hid (nameB_good s (by omega) hg.out)
                go_wp2
                go_ret
                exact ⟨ret_bool (by rw [hb.out]), rfl⟩
        exact hloop w
end Go.Proofs.Ytflcpcefjliijaa
