/-
  CONTRACTS: the lexer's gaps, lines, runs, numbers, marks, and the token at a beginning.
-/
import Derived.Test.YtflcpcefjliijaaLexA
import Derived.Test.YtflcpcefjliijaaLexPlain2
import Derived.Test.YtflcpcefjliijaaShelf
import Derived.IntWalk
namespace Go.Proofs.Ytflcpcefjliijaa
open Go.RowKit
set_option linter.unusedVariables false

theorem lexLine_any (x : ByteArray) (w : World) (hs : x.size ≤ maxLen) :
    Calls Try.prog 69 #[.string x] w fun e w' => e = .returned (.int .i64 (Lx.lineLen x.data.toList : Nat)) ∧ w' = w := by
  unfold maxLen at hs
  have hl : x.data.toList.length = x.size := by simp
  by_cases h : Lx.lineLen x.data.toList < x.data.toList.length
  · have e := Lx.line_hit _ h
    generalize Lx.lineLen x.data.toList = n at *
    have E := Lib.hid e
    have hn : (0 : Int) ≤ (n : Int) := by omega
    clear e h hl
    go_enter Try.func69, Try.ntmps69
    go_wp2_with fail
    refine (Try.strings_IndexByte x 10 _).mono ?_
    rintro e w' ⟨rfl, rfl⟩
    rw [show Lib.indexByte x.data.toList (10 : Int).toNat.toUInt8 = (n : Int) from E.out]
    go_wp2_with fail
    go_ret
    exact ⟨rfl, rfl⟩
  · have e := Lx.line_miss _ h
    have ha := Lx.line_all _ h
    rw [ha, hl]
    have E := Lib.hid e
    clear e h hl ha
    go_enter Try.func69, Try.ntmps69
    go_wp2_with fail
    refine (Try.strings_IndexByte x 10 _).mono ?_
    rintro e w' ⟨rfl, rfl⟩
    rw [show Lib.indexByte x.data.toList (10 : Int).toNat.toUInt8 = -1 from E.out]
    go_wp2_with fail
    go_ret
    exact ⟨rfl, rfl⟩

theorem hasPrefix_any (x : ByteArray) (w : World) (hs : x.size ≤ maxLen) :
    Calls Try.prog 68 #[.string x, .string ⟨#[47, 47]⟩] w fun e w' => e = .returned (.bool (Lx.comment x.data.toList)) ∧ w' = w := by
  unfold maxLen at hs
  have hin : ∀ w : World, Calls Try.prog 82 #[.string x, .string ⟨#[47, 47]⟩] w fun e w' => e = .returned (.bool (Lx.comment x.data.toList)) ∧ w' = w := by
    intro w
    by_cases h : 2 ≤ x.size
    · have e := Lx.pre_comment x h
      have e2 : (x.extract 0 2).toList = x.data.toList.take 2 := by rw [toList_d, Lx.data_extract]; simp
      rw [← e2] at e
      have E := Lib.hid e
      clear e e2
      go_enter Try.func82, Try.ntmps82
      go_wp2
      go_ret
      exact ⟨ret_bool E.out, rfl⟩
    · have e := Lib.hid (Lx.short_comment x h)
      have h' : x.size < 2 := by omega
      clear h
      go_enter Try.func82, Try.ntmps82
      go_wp2
      go_ret
      exact ⟨ret_bool e.out.symm, rfl⟩
  have HIN := Lib.hid hin
  clear hin
  go_enter Try.func68, Try.ntmps68
  go_wp2_with fail
  refine (HIN.out _).mono ?_
  rintro e w' ⟨rfl, rfl⟩
  go_wp2_with fail
  go_ret
  exact ⟨rfl, rfl⟩

/-- gap: n bytes that no token is of -/
def GapPost (x : ByteArray) (w : World) (e : Ending) (w' : World) : Prop := ∃ n : Nat, e = .returned (.int .i64 (n : Nat)) ∧ n ≤ x.size ∧ Lx.GapIs x.data.toList n ∧ w' = w

set_option maxHeartbeats 1000000 in
theorem gap_any (x : ByteArray) (w : World) (hs : x.size ≤ 1000000) :
    Calls Try.prog 52 #[.string x] w (GapPost x w) := by
  have hl : x.data.toList.length = x.size := by simp
  have HL := Lib.hid hl
  clear hl
  go_enter Try.func52, Try.ntmps52
  go_wp2
  go_loop [3] (fun i => ∃ j : Nat, j ≤ x.size ∧ i = .int .i64 j ∧ Hid (Lx.GapInv x.data.toList j)) (fun i => x.size - (intOf i).toNat)
  case atStart => exact ⟨0, Nat.zero_le _, rfl, Lx.GapInv.start _⟩
  case round =>
    obtain ⟨j, hj, rfl, hg⟩ := hrel
    by_cases hlt : j < x.size
    · have hlt' : j < x.data.toList.length := by rw [HL.out]; exact hlt
      have ex : x.data.toList[j] = x[j] := rfl
      have HLT := Lib.hid hlt'
      by_cases hb : Lx.blankI ((x[j]'hlt).toNat : Int) = true
      · have HN : Hid (Lx.GapInv x.data.toList (j + 1)) := hg.out.blank hlt' hb
        clear hg hlt' ex
        go_wp2_with fail
        refine (lexBlank_any _ _).mono ?_
        rintro e w' ⟨rfl, rfl⟩
        rw [hb]
        go_wp2_with fail
        go_round
        case rel => exact ⟨j + 1, by omega, by go_num, HN⟩
        case measure => simp [intOf]; omega
      · have hb' : Lx.blankI ((x[j]'hlt).toNat : Int) = false := by simpa using hb
        have hdr : (x.extract j x.size).data.toList = x.data.toList.drop j := Lx.data_from x j
        have hsz : (x.extract j x.size).size ≤ maxLen := by rw [ByteArray.size_extract]; unfold maxLen; omega
        have HDR := Lib.hid hdr
        have HSZ := Lib.hid hsz
        clear hb hdr hsz
        by_cases hc : Lx.comment (x.data.toList.drop j) = true
        · have HN : Hid (Lx.GapInv x.data.toList (j + Lx.lineLen (x.data.toList.drop j))) := hg.out.comm hlt' hb' hc
          have hpos := Lx.comm_blank hlt' hc
          have hle := HN.out.1
          rw [HL.out] at hle
          have HC := Lib.hid hc
          clear hg hlt' ex hc
          generalize hk : Lx.lineLen (x.data.toList.drop j) = k at *
          have HK := Lib.hid hk
          clear hk
          go_wp2_with fail
          refine (lexBlank_any _ _).mono ?_
          rintro e w' ⟨rfl, rfl⟩
          rw [hb']
          go_wp2_with fail
          refine (hasPrefix_any _ _ HSZ.out).mono ?_
          rintro e w' ⟨rfl, rfl⟩
          rw [HDR.out, HC.out]
          go_wp2_with fail
          refine (lexLine_any _ _ HSZ.out).mono ?_
          rintro e w' ⟨rfl, rfl⟩
          rw [HDR.out, HK.out]
          go_wp2_with fail
          go_round
          case rel => exact ⟨j + k, by omega, by go_num, HN⟩
          case measure => simp [intOf]; omega
        · have hc' : Lx.comment (x.data.toList.drop j) = false := by simpa using hc
          have HN : Hid (Lx.GapIs x.data.toList j) := hg.out.stop hlt' hb' hc'
          have HC := Lib.hid hc'
          clear hg hlt' ex hc hc'
          go_wp2_with fail
          refine (lexBlank_any _ _).mono ?_
          rintro e w' ⟨rfl, rfl⟩
          rw [hb']
          go_wp2_with fail
          refine (hasPrefix_any _ _ HSZ.out).mono ?_
          rintro e w' ⟨rfl, rfl⟩
          rw [HDR.out, HC.out]
          go_wp2_with fail
          go_ret
          exact ⟨j, rfl, by omega, HN.out, rfl⟩
    · have hje : j = x.size := by omega
      subst hje
      have HN : Hid (Lx.GapIs x.data.toList x.size) := by show Lx.GapIs x.data.toList x.size; rw [← HL.out]; rw [← HL.out] at hg; exact hg.out.all
      go_wp2
      go_ret
      exact ⟨x.size, rfl, by omega, HN.out, rfl⟩

theorem runI_of (c : Int) (h : Lx.ltrI c = true ∨ Lx.digI c = true) : Lx.runI c = true := by unfold Lx.runI; rcases h with h | h <;> rw [h] <;> simp
theorem runI_no (c : Int) (h : Lx.ltrI c = false) (h2 : Lx.digI c = false) : Lx.runI c = false := by unfold Lx.runI; rw [h, h2]; rfl

set_option maxHeartbeats 1000000 in
theorem run_any (x : ByteArray) (w : World) (hs : x.size ≤ 1000000) :
    Calls Try.prog 70 #[.string x] w fun e w' => e = .returned (.int .i64 (Lx.runLen x.data.toList : Nat)) ∧ w' = w := by
  go_enter Try.func70, Try.ntmps70
  go_wp2
  go_loop [3, 6] (fun _ i => ∃ j : Nat, j ≤ x.size ∧ i = .int .i64 j ∧ Hid (∀ i (hi : i < x.size), i < j → Lx.runI ((x[i]).toNat : Int) = true)) (fun _ i => x.size - (intOf i).toNat)
  case atStart => exact ⟨0, Nat.zero_le _, rfl, fun i hi h => absurd h (by omega)⟩
  case round =>
    obtain ⟨j, hj, rfl, hg⟩ := hrel
    by_cases hlt : j < x.size
    · by_cases hr : Lx.runI ((x[j]).toNat : Int) = true
      · have HN : Hid (∀ i (hi : i < x.size), i < j + 1 → Lx.runI ((x[i]).toNat : Int) = true) := fun i hi h => by
          by_cases e : i = j
          · subst e; exact hr
          · exact hg.out i hi (by omega)
        have hr2 : Lx.ltrI ((x[j]).toNat : Int) = true ∨ (Lx.ltrI ((x[j]).toNat : Int) = false ∧ Lx.digI ((x[j]).toNat : Int) = true) := by
          unfold Lx.runI at hr
          cases h1 : Lx.ltrI ((x[j]).toNat : Int)
          · rw [h1] at hr; exact .inr ⟨rfl, hr⟩
          · exact .inl rfl
        clear hr hg
        rcases hr2 with h1 | ⟨h1, h2⟩
        · go_wp2_with (first | (go_at_call 84; refine (lexLetter_any _ _).mono ?_; rintro e w' ⟨rfl, rfl⟩) | (go_at_call 85; refine (lexDigit_any _ _).mono ?_; rintro e w' ⟨rfl, rfl⟩))
          go_round
          case rel => exact ⟨j + 1, by omega, by go_num, HN⟩
          case measure => simp [intOf]; omega
        · go_wp2_with (first | (go_at_call 84; refine (lexLetter_any _ _).mono ?_; rintro e w' ⟨rfl, rfl⟩) | (go_at_call 85; refine (lexDigit_any _ _).mono ?_; rintro e w' ⟨rfl, rfl⟩))
          go_round
          case rel => exact ⟨j + 1, by omega, by go_num, HN⟩
          case measure => simp [intOf]; omega
      · have hr' : Lx.runI ((x[j]).toNat : Int) = false := by simpa using hr
        have HN : Hid (Lx.runLen x.data.toList = j) := Lx.runLen_at x j hj hg.out (.inr ⟨hlt, hr'⟩)
        have h1 : Lx.ltrI ((x[j]).toNat : Int) = false := by unfold Lx.runI at hr'; simp at hr'; exact hr'.1
        have h2 : Lx.digI ((x[j]).toNat : Int) = false := by unfold Lx.runI at hr'; simp at hr'; exact hr'.2
        clear hr hr' hg
        go_wp2_with (first | (go_at_call 84; refine (lexLetter_any _ _).mono ?_; rintro e w' ⟨rfl, rfl⟩) | (go_at_call 85; refine (lexDigit_any _ _).mono ?_; rintro e w' ⟨rfl, rfl⟩))
        go_ret
        exact ⟨ret_int (by rw [HN.out]), rfl⟩
    · have hje : j = x.size := by omega
      have HN : Hid (Lx.runLen x.data.toList = x.size) := Lx.runLen_at x x.size (Nat.le_refl _) (fun i hi h => hg.out i hi (by omega)) (.inl rfl)
      subst hje
      clear hg
      go_wp2
      go_ret
      exact ⟨ret_int (by rw [HN.out]), rfl⟩

set_option maxHeartbeats 1000000 in
theorem number_any (x : ByteArray) (w : World) (hs : x.size ≤ 1000000) :
    Calls Try.prog 86 #[.string x] w fun e w' => e = .returned (.bool (Lx.numL x.data.toList)) ∧ w' = w := by
  go_enter Try.func86, Try.ntmps86
  go_wp2
  go_loop [3, 6] (fun _ i => ∃ j : Nat, j ≤ x.size ∧ i = .int .i64 j ∧ Hid (∀ i (hi : i < x.size), i < j → Lx.digI ((x[i]).toNat : Int) = true)) (fun _ i => x.size - (intOf i).toNat)
  case atStart => exact ⟨0, Nat.zero_le _, rfl, fun i hi h => absurd h (by omega)⟩
  case round =>
    obtain ⟨j, hj, rfl, hg⟩ := hrel
    by_cases hlt : j < x.size
    · by_cases hr : Lx.digI ((x[j]).toNat : Int) = true
      · have HN : Hid (∀ i (hi : i < x.size), i < j + 1 → Lx.digI ((x[i]).toNat : Int) = true) := fun i hi h => by
          by_cases e : i = j
          · subst e; exact hr
          · exact hg.out i hi (by omega)
        clear hg
        go_wp2_with (go_at_call 85; refine (lexDigit_any _ _).mono ?_; rintro e w' ⟨rfl, rfl⟩)
        go_round
        case rel => exact ⟨j + 1, by omega, by go_num, HN⟩
        case measure => simp [intOf]; omega
      · have hr' : Lx.digI ((x[j]).toNat : Int) = false := by simpa using hr
        have HN : Hid (Lx.numL x.data.toList = false) := Lx.numL_no x j hlt hr'
        clear hr hg
        go_wp2_with (go_at_call 85; refine (lexDigit_any _ _).mono ?_; rintro e w' ⟨rfl, rfl⟩)
        go_ret
        exact ⟨ret_bool (by rw [HN.out]), rfl⟩
    · have hje : j = x.size := by omega
      have HN : Hid (Lx.numL x.data.toList = decide (x.size ≤ 18)) := Lx.numL_yes x (fun i hi => hg.out i hi (by omega))
      subst hje
      clear hg
      by_cases h18 : x.size ≤ 18
      · have H2 : Hid (decide (x.size ≤ 18) = true) := decide_eq_true h18
        go_wp2
        go_ret
        exact ⟨ret_bool (by rw [HN.out, H2.out]; simp; omega), rfl⟩
      · have H2 : Hid (decide (x.size ≤ 18) = false) := decide_eq_false h18
        go_wp2
        go_ret
        exact ⟨ret_bool (by rw [HN.out, H2.out]; simp; omega), rfl⟩

set_option maxHeartbeats 1000000 in
theorem kindOfRun_any (x : ByteArray) (w : World) (hs : x.size ≤ 1000000) (h0 : 0 < x.size) :
    Calls Try.prog 71 #[.string x] w fun e w' => e = .returned (.int .i64 (Lx.kindRun x.data.toList)) ∧ w' = w := by
  have hd := Lx.headDig_eq x h0
  cases hn : Lx.numL x.data.toList
  · cases hh : Lx.headDig x.data.toList
    · cases hr : Lx.resL x.data.toList
      all_goals
        have HK := Lib.hid (by first | exact Lx.kind_word hn hh hr | exact Lx.kind_name hn hh hr : Lx.kindRun x.data.toList = _)
        rw [hh] at hd
        have hd' := hd.symm
        clear hd hh
        go_enter Try.func71, Try.ntmps71
        go_wp2_with (first | (go_at_call 86; refine (number_any _ _ hs).mono ?_; rintro e w' ⟨rfl, rfl⟩) | (go_at_call 85; refine (lexDigit_any _ _).mono ?_; rintro e w' ⟨rfl, rfl⟩) | (go_at_call 27; refine (lexReserved_any _ _).mono ?_; rintro e w' ⟨rfl, rfl⟩))
        go_ret
        exact ⟨ret_int (by rw [HK.out]), rfl⟩
    · have HK := Lib.hid (Lx.kind_dig hn hh)
      rw [hh] at hd
      have hd' := hd.symm
      clear hd hh
      go_enter Try.func71, Try.ntmps71
      go_wp2_with (first | (go_at_call 86; refine (number_any _ _ hs).mono ?_; rintro e w' ⟨rfl, rfl⟩) | (go_at_call 85; refine (lexDigit_any _ _).mono ?_; rintro e w' ⟨rfl, rfl⟩))
      go_ret
      exact ⟨ret_int (by rw [HK.out]), rfl⟩
  · have HK := Lib.hid (Lx.kind_num hn)
    clear hd
    go_enter Try.func71, Try.ntmps71
    go_wp2_with (go_at_call 86; refine (number_any _ _ hs).mono ?_; rintro e w' ⟨rfl, rfl⟩)
    go_ret
    exact ⟨ret_int (by rw [HK.out]), rfl⟩
end Go.Proofs.Ytflcpcefjliijaa
