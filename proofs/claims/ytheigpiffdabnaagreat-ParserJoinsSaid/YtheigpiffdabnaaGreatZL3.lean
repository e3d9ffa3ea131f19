/-
  CONTRACTS: the lexer's gaps, lines, runs, numbers, marks, and the token at a beginning.
-/
import Derived.Test.YtheigpiffdabnaaGreatZL2
import Derived.Test.YtheigpiffdabnaaGreatZL1
import Derived.IntWalk
import Derived.Test.YtheigpiffdabnaaGreatZA2
set_option linter.unusedVariables false
namespace Go.Proofs.YtheigpiffdabnaaGreat
open Go.RowKit
theorem lexLine_any (x : ByteArray) (w : World) (hs : x.size ≤ maxLen) :
  Calls Tryz.prog 36 #[.string x] w fun e w' => e = .returned (.int .i64 (Lx.lineLen x.data.toList : Nat)) ∧ w' = w := by
 unfold maxLen at hs
 have hl : x.data.toList.length = x.size := by simp
 by_cases h : Lx.lineLen x.data.toList < x.data.toList.length
 ·have e := Lx.line_hit _ h
  generalize Lx.lineLen x.data.toList = n at *
  have E := Lib.hid e
  have hn : (0 : Int) ≤ (n : Int) := by omega
  clear e h hl
  go_enter Tryz.func36, Tryz.ntmps36
  go_wp2_with fail
  refine (Tryz.strings_IndexByte x 10 _).mono ?_
  rintro e w' ⟨rfl, rfl⟩
  rw [show Lib.indexByte x.data.toList (10 : Int).toNat.toUInt8 = (n : Int) from E.out]
  go_wp2_with fail
  go_ret
  exact ⟨rfl, rfl⟩
 ·have e := Lx.line_miss _ h
  have ha := Lx.line_all _ h
  rw [ha, hl]
  have E := Lib.hid e
  clear e h hl ha
  go_enter Tryz.func36, Tryz.ntmps36
  go_wp2_with fail
  refine (Tryz.strings_IndexByte x 10 _).mono ?_
  rintro e w' ⟨rfl, rfl⟩
  rw [show Lib.indexByte x.data.toList (10 : Int).toNat.toUInt8 = -1 from E.out]
  go_wp2_with fail
  go_ret
  exact ⟨rfl, rfl⟩
theorem hasPrefix_any (x : ByteArray) (w : World) (hs : x.size ≤ maxLen) :
  Calls Tryz.prog 35 #[.string x, .string ⟨#[47, 47]⟩] w fun e w' => e = .returned (.bool (Lx.comment x.data.toList)) ∧ w' = w := by
 unfold maxLen at hs
 have hin : ∀ w : World, Calls Tryz.prog 48 #[.string x, .string ⟨#[47, 47]⟩] w fun e w' => e = .returned (.bool (Lx.comment x.data.toList)) ∧ w' = w := by
  intro w
  by_cases h : 2 ≤ x.size
  ·have e := Lx.pre_comment x h
   have e2 : (x.extract 0 2).toList = x.data.toList.take 2 := by rw [toList_d, Lx.data_extract]; simp
   rw [← e2] at e
   have E := Lib.hid e
   clear e e2
   go_enter Tryz.func48, Tryz.ntmps48
   go_wp2
   go_ret
   exact ⟨ret_bool E.out, rfl⟩
  ·have e := Lib.hid (Lx.short_comment x h)
   have h' : x.size < 2 := by omega
   clear h
   go_enter Tryz.func48, Tryz.ntmps48
   go_wp2
   go_ret
   exact ⟨ret_bool e.out.symm, rfl⟩
 have HIN := Lib.hid hin
 clear hin
 go_enter Tryz.func35, Tryz.ntmps35
 go_wp2_with fail
 refine (HIN.out _).mono ?_
 rintro e w' ⟨rfl, rfl⟩
 go_wp2_with fail
 go_ret
 exact ⟨rfl, rfl⟩
/-- gap: n bytes that no token is of -/
def GapPost (x : ByteArray) (w : World) (e : Ending) (w' : World) : Prop := ∃ n : Nat, e = .returned (.int .i64 (n : Nat)) ∧ n ≤ x.size ∧ Lx.GapIs x.data.toList n ∧ w' = w
set_option maxHeartbeats 1000000 in
theorem gap_any (x : ByteArray) (w : World) (hs : x.size ≤ 1000000) :
  Calls Tryz.prog 26 #[.string x] w (GapPost x w) := by
 have hl : x.data.toList.length = x.size := by simp
 have HL := Lib.hid hl
 clear hl
 go_enter Tryz.func26, Tryz.ntmps26
 go_wp2
 go_loop [3] (fun i => ∃ j : Nat, j ≤ x.size ∧ i = .int .i64 j ∧ Hid (Lx.GapInv x.data.toList j)) (fun i => x.size - (intOf i).toNat)
 case atStart => exact ⟨0, Nat.zero_le _, rfl, Lx.GapInv.start _⟩
 case round =>
  obtain ⟨j, hj, rfl, hg⟩ := hrel
  by_cases hlt : j < x.size
  ·have hlt' : j < x.data.toList.length := by rw [HL.out]; exact hlt
   have ex : x.data.toList[j] = x[j] := rfl
   have HLT := Lib.hid hlt'
   by_cases hb : Lx.blankI ((x[j]'hlt).toNat : Int) = true
   ·have HN : Hid (Lx.GapInv x.data.toList (j + 1)) := hg.out.blank hlt' hb
    clear hg hlt' ex
    go_wp2_with fail
    refine (lexBlank_any _ _).mono ?_
    rintro e w' ⟨rfl, rfl⟩
    rw [hb]
    go_wp2_with fail
    go_round
    case rel => exact ⟨j + 1, by omega, by go_num, HN⟩
    case measure => simp [intOf]; omega
   ·have hb' : Lx.blankI ((x[j]'hlt).toNat : Int) = false := by simpa using hb
    have hdr : (x.extract j x.size).data.toList = x.data.toList.drop j := Lx.data_from x j
    have hsz : (x.extract j x.size).size ≤ maxLen := by rw [ByteArray.size_extract]; unfold maxLen; omega
    have HDR := Lib.hid hdr
    have HSZ := Lib.hid hsz
    clear hb hdr hsz
    by_cases hc : Lx.comment (x.data.toList.drop j) = true
    ·have HN : Hid (Lx.GapInv x.data.toList (j + Lx.lineLen (x.data.toList.drop j))) := hg.out.comm hlt' hb' hc
     have hpos := Lx.comm_blank hlt' hc
     have hle := HN.out.1
     rw [HL.out] at hle
     have HC := Lib.hid hc
     clear hg hlt' ex hc
     generalize hk : Lx.lineLen (x.data.toList.drop j) = k at *
     have HK := Lib.hid hk
     clear hk
     go_wp2_with fail
     refine (lexBlank_any _ _).mono ?_
     rintro e w' ⟨rfl, rfl⟩
     rw [hb']
     go_wp2_with fail
     refine (hasPrefix_any _ _ HSZ.out).mono ?_
     rintro e w' ⟨rfl, rfl⟩
     rw [HDR.out, HC.out]
     go_wp2_with fail
     refine (lexLine_any _ _ HSZ.out).mono ?_
     rintro e w' ⟨rfl, rfl⟩
     rw [HDR.out, HK.out]
     go_wp2_with fail
     go_round
     case rel => exact ⟨j + k, by omega, by go_num, HN⟩
     case measure => simp [intOf]; omega
    ·have hc' : Lx.comment (x.data.toList.drop j) = false := by simpa using hc
     have HN : Hid (Lx.GapIs x.data.toList j) := hg.out.stop hlt' hb' hc'
     have HC := Lib.hid hc'
     clear hg hlt' ex hc hc'
     go_wp2_with fail
     refine (lexBlank_any _ _).mono ?_
     rintro e w' ⟨rfl, rfl⟩
     rw [hb']
     go_wp2_with fail
     refine (hasPrefix_any _ _ HSZ.out).mono ?_
     rintro e w' ⟨rfl, rfl⟩
     rw [HDR.out, HC.out]
     go_wp2_with fail
     go_ret
     exact ⟨j, rfl, by omega, HN.out, rfl⟩
  ·have hje : j = x.size := by omega
   subst hje
   have HN : Hid (Lx.GapIs x.data.toList x.size) := by show Lx.GapIs x.data.toList x.size; rw [← HL.out]; rw [← HL.out] at hg; exact hg.out.all
   go_wp2
   go_ret
   exact ⟨x.size, rfl, by omega, HN.out, rfl⟩
set_option maxHeartbeats 1000000 in
theorem run_any (x : ByteArray) (w : World) (hs : x.size ≤ 1000000) :
  Calls Tryz.prog 37 #[.string x] w fun e w' => e = .returned (.int .i64 (Lx.runLen x.data.toList : Nat)) ∧ w' = w := by
 go_enter Tryz.func37, Tryz.ntmps37
 go_wp2
 go_loop [3, 6] (fun _ i => ∃ j : Nat, j ≤ x.size ∧ i = .int .i64 j ∧ Hid (∀ i (hi : i < x.size), i < j → Lx.runI ((x[i]).toNat : Int) = true)) (fun _ i => x.size - (intOf i).toNat)
 case atStart => exact ⟨0, Nat.zero_le _, rfl, fun i hi h => absurd h (by omega)⟩
 case round =>
  obtain ⟨j, hj, rfl, hg⟩ := hrel
  by_cases hlt : j < x.size
  ·by_cases hr : Lx.runI ((x[j]).toNat : Int) = true
   ·have HN : Hid (∀ i (hi : i < x.size), i < j + 1 → Lx.runI ((x[i]).toNat : Int) = true) := fun i hi h => by
     by_cases e : i = j
     ·subst e; exact hr
     ·exact hg.out i hi (by omega)
    have hr2 : Lx.ltrI ((x[j]).toNat : Int) = true ∨ (Lx.ltrI ((x[j]).toNat : Int) = false ∧ Lx.digI ((x[j]).toNat : Int) = true) := by
     unfold Lx.runI at hr
     cases h1 : Lx.ltrI ((x[j]).toNat : Int)
     ·rw [h1] at hr; exact .inr ⟨rfl, hr⟩
     ·exact .inl rfl
    clear hr hg
    rcases hr2 with h1 | ⟨h1, h2⟩
    ·go_wp2_with (first | (go_at_call 50; refine (lexLetter_any _ _).mono ?_; rintro e w' ⟨rfl, rfl⟩) | (go_at_call 51; refine (lexDigit_any _ _).mono ?_; rintro e w' ⟨rfl, rfl⟩))
     go_round
     case rel => exact ⟨j + 1, by omega, by go_num, HN⟩
     case measure => simp [intOf]; omega
    ·go_wp2_with (first | (go_at_call 50; refine (lexLetter_any _ _).mono ?_; rintro e w' ⟨rfl, rfl⟩) | (go_at_call 51; refine (lexDigit_any _ _).mono ?_; rintro e w' ⟨rfl, rfl⟩))
     go_round
     case rel => exact ⟨j + 1, by omega, by go_num, HN⟩
     case measure => simp [intOf]; omega
   ·have hr' : Lx.runI ((x[j]).toNat : Int) = false := by simpa using hr
    have HN : Hid (Lx.runLen x.data.toList = j) := Lx.runLen_at x j hj hg.out (.inr ⟨hlt, hr'⟩)
    have h1 : Lx.ltrI ((x[j]).toNat : Int) = false := by unfold Lx.runI at hr'; simp at hr'; exact hr'.1
    have h2 : Lx.digI ((x[j]).toNat : Int) = false := by unfold Lx.runI at hr'; simp at hr'; exact hr'.2
    clear hr hr' hg
    go_wp2_with (first | (go_at_call 50; refine (lexLetter_any _ _).mono ?_; rintro e w' ⟨rfl, rfl⟩) | (go_at_call 51; refine (lexDigit_any _ _).mono ?_; rintro e w' ⟨rfl, rfl⟩))
    go_ret
    exact ⟨ret_int (by rw [HN.out]), rfl⟩
  ·have hje : j = x.size := by omega
   have HN : Hid (Lx.runLen x.data.toList = x.size) := Lx.runLen_at x x.size (Nat.le_refl _) (fun i hi h => hg.out i hi (by omega)) (.inl rfl)
   subst hje
   clear hg
   go_wp2
   go_ret
   exact ⟨ret_int (by rw [HN.out]), rfl⟩
set_option maxHeartbeats 1000000 in
theorem number_any (x : ByteArray) (w : World) (hs : x.size ≤ 1000000) :
  Calls Tryz.prog 52 #[.string x] w fun e w' => e = .returned (.bool (Lx.numL x.data.toList)) ∧ w' = w := by
 go_enter Tryz.func52, Tryz.ntmps52
 go_wp2
 go_loop [3, 6] (fun _ i => ∃ j : Nat, j ≤ x.size ∧ i = .int .i64 j ∧ Hid (∀ i (hi : i < x.size), i < j → Lx.digI ((x[i]).toNat : Int) = true)) (fun _ i => x.size - (intOf i).toNat)
 case atStart => exact ⟨0, Nat.zero_le _, rfl, fun i hi h => absurd h (by omega)⟩
 case round =>
  obtain ⟨j, hj, rfl, hg⟩ := hrel
  by_cases hlt : j < x.size
  ·by_cases hr : Lx.digI ((x[j]).toNat : Int) = true
   ·have HN : Hid (∀ i (hi : i < x.size), i < j + 1 → Lx.digI ((x[i]).toNat : Int) = true) := fun i hi h => by
     by_cases e : i = j
     ·subst e; exact hr
     ·exact hg.out i hi (by omega)
    clear hg
    go_wp2_with (go_at_call 51; refine (lexDigit_any _ _).mono ?_; rintro e w' ⟨rfl, rfl⟩)
    go_round
    case rel => exact ⟨j + 1, by omega, by go_num, HN⟩
    case measure => simp [intOf]; omega
   ·have hr' : Lx.digI ((x[j]).toNat : Int) = false := by simpa using hr
    have HN : Hid (Lx.numL x.data.toList = false) := Lx.numL_no x j hlt hr'
    clear hr hg
    go_wp2_with (go_at_call 51; refine (lexDigit_any _ _).mono ?_; rintro e w' ⟨rfl, rfl⟩)
    go_ret
    exact ⟨ret_bool (by rw [HN.out]), rfl⟩
  ·have hje : j = x.size := by omega
   have HN : Hid (Lx.numL x.data.toList = decide (x.size ≤ 18)) := Lx.numL_yes x (fun i hi => hg.out i hi (by omega))
   subst hje
   clear hg
   by_cases h18 : x.size ≤ 18
   ·have H2 : Hid (decide (x.size ≤ 18) = true) := decide_eq_true h18
    go_wp2
    go_ret
    exact ⟨ret_bool (by rw [HN.out, H2.out]; simp; omega), rfl⟩
   ·have H2 : Hid (decide (x.size ≤ 18) = false) := decide_eq_false h18
    go_wp2
    go_ret
    exact ⟨ret_bool (by rw [HN.out, H2.out]; simp; omega), rfl⟩
set_option maxHeartbeats 1000000 in
theorem kindOfRun_any (x : ByteArray) (w : World) (hs : x.size ≤ 1000000) (h0 : 0 < x.size) :
  Calls Tryz.prog 38 #[.string x] w fun e w' => e = .returned (.int .i64 (Lx.kindRun x.data.toList)) ∧ w' = w := by
 have hd := Lx.headDig_eq x h0
 cases hn : Lx.numL x.data.toList
 ·cases hh : Lx.headDig x.data.toList
  ·cases hr : Lx.resL x.data.toList
   all_goals
    have HK := Lib.hid (by first | exact Lx.kind_word hn hh hr | exact Lx.kind_name hn hh hr : Lx.kindRun x.data.toList = _)
    rw [hh] at hd
    have hd' := hd.symm
    clear hd hh
    go_enter Tryz.func38, Tryz.ntmps38
    go_wp2_with (first | (go_at_call 52; refine (number_any _ _ hs).mono ?_; rintro e w' ⟨rfl, rfl⟩) | (go_at_call 51; refine (lexDigit_any _ _).mono ?_; rintro e w' ⟨rfl, rfl⟩) | (go_at_call 53; refine (lexReserved_any _ _).mono ?_; rintro e w' ⟨rfl, rfl⟩))
    go_ret
    exact ⟨ret_int (by rw [HK.out]), rfl⟩
  ·have HK := Lib.hid (Lx.kind_dig hn hh)
   rw [hh] at hd
   have hd' := hd.symm
   clear hd hh
   go_enter Tryz.func38, Tryz.ntmps38
   go_wp2_with (first | (go_at_call 52; refine (number_any _ _ hs).mono ?_; rintro e w' ⟨rfl, rfl⟩) | (go_at_call 51; refine (lexDigit_any _ _).mono ?_; rintro e w' ⟨rfl, rfl⟩))
   go_ret
   exact ⟨ret_int (by rw [HK.out]), rfl⟩
 ·have HK := Lib.hid (Lx.kind_num hn)
  clear hd
  go_enter Tryz.func38, Tryz.ntmps38
  go_wp2_with (go_at_call 52; refine (number_any _ _ hs).mono ?_; rintro e w' ⟨rfl, rfl⟩)
  go_ret
  exact ⟨ret_int (by rw [HK.out]), rfl⟩
end Go.Proofs.YtheigpiffdabnaaGreat
namespace Go.Proofs.YtheigpiffdabnaaGreat
open Go.RowKit
set_option maxHeartbeats 1000000 in
theorem mark_any (x : ByteArray) (w : World) (hs : x.size ≤ 1000000) (h0 : 0 < x.size) :
  Calls Tryz.prog 39 #[.string x] w fun e w' => e = .returned (.int .i64 (Lx.markLen x.data.toList : Nat)) ∧ w' = w := by
 have hm := Lx.markLen_cons x 0 h0
 simp only [List.drop_zero] at hm
 by_cases h1 : 1 < x.size
 ·have hd : (x.extract 0 2).data.toList = x.data.toList.take 2 := by rw [Lx.data_extract]; simp
  have HD := Lib.hid hd
  clear hd
  cases ht : Lx.twoM (x.data.toList.take 2)
  ·cases hk : Lx.markI ((x[0]'h0).toNat : Int)
   all_goals
    rw [ht, hk] at hm
    have HM := Lib.hid hm
    have HT := Lib.hid ht
    clear hm ht
    go_enter Tryz.func39, Tryz.ntmps39
    go_wp2_with fail
    refine (lexTwoMark_any _ _).mono ?_
    rintro e w' ⟨rfl, rfl⟩
    rw [HD.out, HT.out]
    go_wp2_with fail
    refine (lexOneMark_any _ _).mono ?_
    rintro e w' ⟨rfl, rfl⟩
    go_wp2_with fail
    go_ret
    exact ⟨ret_int (by rw [HM.out]; rfl), rfl⟩
  ·rw [ht] at hm
   have HM := Lib.hid hm
   have HT := Lib.hid ht
   clear hm ht
   go_enter Tryz.func39, Tryz.ntmps39
   go_wp2_with fail
   refine (lexTwoMark_any _ _).mono ?_
   rintro e w' ⟨rfl, rfl⟩
   rw [HD.out, HT.out]
   go_wp2_with fail
   go_ret
   exact ⟨ret_int (by rw [HM.out]; rfl), rfl⟩
 ·have ht : Lx.twoM (x.data.toList.take 2) = false := Lx.twoM_short (by rw [List.length_take]; have : x.data.toList.length = x.size := by simp
                                                                        omega)
  have h1' : x.size ≤ 1 := by omega
  cases hk : Lx.markI ((x[0]'h0).toNat : Int)
  all_goals
   rw [ht, hk] at hm
   have HM := Lib.hid hm
   clear hm ht h1
   go_enter Tryz.func39, Tryz.ntmps39
   go_wp2_with fail
   refine (lexOneMark_any _ _).mono ?_
   rintro e w' ⟨rfl, rfl⟩
   go_wp2_with fail
   go_ret
   exact ⟨ret_int (by rw [HM.out]; rfl), rfl⟩
set_option maxHeartbeats 1000000 in
theorem first_any (x : ByteArray) (w : World) (hs : x.size ≤ 1000000) (h0 : 0 < x.size) :
  Calls Tryz.prog 27 #[.string x] w fun e w' => e = .returned (.tuple #[.int .i64 (Lx.tokKind x.data.toList), .int .i64 (Lx.tokLen x.data.toList : Nat)]) ∧ w' = w := by
 have hl : x.data.toList.length = x.size := by simp
 have hle := Lx.runLen_le x.data.toList
 rw [hl] at hle
 by_cases hr : 0 < Lx.runLen x.data.toList
 ·obtain ⟨e1, e2⟩ := Lx.tok_run hr
  rw [e1, e2]
  have hd : (x.extract 0 (Lx.runLen x.data.toList)).data.toList = x.data.toList.take (Lx.runLen x.data.toList) := by rw [Lx.data_extract]; simp
  have hz : (x.extract 0 (Lx.runLen x.data.toList)).size = Lx.runLen x.data.toList := by rw [ByteArray.size_extract]; omega
  clear e1 e2 hl hd
  generalize hn : Lx.runLen x.data.toList = n at *
  have HN := Lib.hid hn
  have HZ := Lib.hid hz
  clear hn hz
  go_enter Tryz.func27, Tryz.ntmps27
  go_wp2_with fail
  refine (run_any _ _ hs).mono ?_
  rintro e w' ⟨rfl, rfl⟩
  rw [HN.out]
  go_wp2_with fail
  refine (kindOfRun_any _ _ (by rw [HZ.out]; omega) (by rw [HZ.out]; omega)).mono ?_
  rintro e w' ⟨rfl, rfl⟩
  go_wp2_with fail
  go_ret2
  exact ⟨rfl, rfl⟩
 ·have hr0 : Lx.runLen x.data.toList = 0 := by omega
  by_cases hm : 0 < Lx.markLen x.data.toList
  ·obtain ⟨e1, e2⟩ := Lx.tok_mark hr0 hm
   rw [e1, e2]
   clear e1 e2 hl hr hle
   have HR := Lib.hid hr0
   clear hr0
   go_enter Tryz.func27, Tryz.ntmps27
   go_wp2_with fail
   refine (run_any _ _ hs).mono ?_
   rintro e w' ⟨rfl, rfl⟩
   rw [HR.out]
   go_wp2_with fail
   refine (mark_any _ _ hs h0).mono ?_
   rintro e w' ⟨rfl, rfl⟩
   go_wp2_with fail
   go_ret2
   exact ⟨rfl, rfl⟩
  ·have hm0 : Lx.markLen x.data.toList = 0 := by omega
   obtain ⟨e1, e2⟩ := Lx.tok_bad hr0 hm0
   rw [e1, e2]
   clear e1 e2 hl hr hle hm
   have HR := Lib.hid hr0
   have HM := Lib.hid hm0
   clear hr0 hm0
   go_enter Tryz.func27, Tryz.ntmps27
   go_wp2_with fail
   refine (run_any _ _ hs).mono ?_
   rintro e w' ⟨rfl, rfl⟩
   rw [HR.out]
   go_wp2_with fail
   refine (mark_any _ _ hs h0).mono ?_
   rintro e w' ⟨rfl, rfl⟩
   rw [HM.out]
   go_wp2_with fail
   go_ret2
   exact ⟨rfl, rfl⟩
theorem infoTok : (Tryz.prog.info? 55).map (fun i => (i.zero, i.size, i.bytes)) = some (some (.agg #[.int .i64 0, .string ⟨#[]⟩, .int .i64 0]), tokEnc.size, 32) := by kernel_rfl
theorem lies_tok {w : World} {b : Nat} {t : Lx.Tok} (g0 : w.cell? ⟨b, 0, none⟩ = some (.int .i64 t.kind)) (g1 : w.cell? ⟨b, 1, none⟩ = some (.string t.text)) (g2 : w.cell? ⟨b, 2, none⟩ = some (.int .i64 t.at_)) : LiesL tokEnc w (some ⟨b, 0, none⟩) [t] := fun _ => ⟨b, 0, rfl, fun j v hj => by
 rw [Enc.all_cons, Enc.all_nil, List.append_nil] at hj
 match j with
 | 0 => simp [tokEnc] at hj; subst hj; exact g0
 | 1 => simp [tokEnc] at hj; subst hj; exact g1
 | 2 => simp [tokEnc] at hj; subst hj; exact g2
 | j + 3 => simp [tokEnc] at hj⟩
theorem toks_room {n m : Nat} (h : n ≤ 1000000) (h2 : m ≤ 1000000) : Hid (n + m ≤ maxLen) ∧ Hid ((n + m) * 32 ≤ 140737488355328) := ⟨by show _ ≤ _; unfold maxLen; omega, by show _ ≤ _; omega⟩
/-- what Tokens makes of a text -/
def tokList (s : ByteArray) : List Lx.Tok := if s.size ≤ 20000 then Lx.toks s else []
def TokPost (s : ByteArray) (w : World) (e : Ending) (w' : World) : Prop := ∃ v, e = .returned v ∧ SlIs tokEnc w' v (tokList s) ∧ Below w.heap.size w w'
/-- what holds at each round -/
structure Going (s : ByteArray) (w0 : World) (B k : Nat) (out : Value) (D : List Lx.Tok) (wr : World) : Prop where
 own : OwnL tokEnc 55 wr B out D
 bel : Below B w0 wr
 siz : B ≤ wr.heap.size
 scan : ∀ T, Lx.Scan (s.data.toList.drop k) k T → Lx.Scan s.data.toList 0 (D ++ T)
 next : k = s.size ∨ ∃ c r, s.data.toList.drop k = c :: r ∧ Lx.blankI (c.toNat : Int) = false ∧ Lx.comment (c :: r) = false
 len : D.length ≤ k
theorem Going.step {s : ByteArray} {w0 : World} {B k : Nat} {out : Value} {D : List Lx.Tok} {wr : World} (h : Going s w0 B k out D wr) (hk : k < s.size) {out2 : Value} {w2 : World} {n m : Nat} (hn : n = Lx.tokLen (s.data.toList.drop k))
  (hown : OwnL tokEnc 55 w2 B out2 (D ++ [Lx.tokOf (s.data.toList.drop k) k])) (hb : Below B wr w2) (hg : Lx.GapIs (s.data.toList.drop (k + n)) m) : Going s w0 B (k + n + m) out2 (D ++ [Lx.tokOf (s.data.toList.drop k) k]) w2 := by
 have hp := Lx.tokLen_pos (s.data.toList.drop k)
 have hle := hg.1.1
 rw [List.length_drop] at hle
 have hsl : s.data.toList.length = s.size := by simp
 refine ⟨hown, h.bel.trans hb, Nat.le_trans h.siz hb.size, fun T hT => ?_, ?_, by have := h.len; simp; omega⟩
 ·rw [List.append_assoc]
  refine h.scan _ ?_
  rcases h.next with e | ⟨c, r, e, hc1, hc2⟩
  ·omega
  ·rw [e] at hn ⊢
   refine .tok c r k T hc1 hc2 ?_
   rw [← hn, ← e, List.drop_drop]
   refine hg.1.2 _ _ ?_
   rw [List.drop_drop]
   exact hT
 ·rcases hg.2 with e | ⟨c, r, e, hc1, hc2⟩
  ·left
   rw [List.length_drop] at e
   have hle2 : k + n ≤ s.size := by
    rcases h.next with e | ⟨c, r, e, hc1, hc2⟩
    ·omega
    ·have := Lx.tokLen_le c r
     rw [← e, ← hn, List.length_drop] at this
     omega
   omega
  ·right
   rw [List.drop_drop] at e
   exact ⟨c, r, e, hc1, hc2⟩
set_option maxHeartbeats 2000000 in
theorem tokens_any (s : ByteArray) (w : World) (hs : s.size ≤ 4611686018427387904) :
  Calls Tryz.prog 18 #[.string s] w (TokPost s w) := by
 by_cases hbig : 20000 < s.size
 ·have hz : tokList s = [] := by unfold tokList; rw [if_neg (by omega)]
  have HZ := Lib.hid hz
  clear hz
  go_enter Tryz.func18, Tryz.ntmps18
  go_wp2_with fail
  go_ret
  exact ⟨_, rfl, by rw [HZ.out]; exact SlIs.isNil _ _, Below.refl _ _⟩
 ·have hz : tokList s = Lx.toks s := by unfold tokList; rw [if_pos (by omega)]
  have hs1 : s.size ≤ 20000 := by omega
  have hl : s.data.toList.length = s.size := by simp
  have HZ := Lib.hid hz
  have HL := Lib.hid hl
  clear hz hl hbig
  go_enter Tryz.func18, Tryz.ntmps18
  go_wp2_with fail
  refine (gap_any s _ (by omega)).mono ?_
  rintro e w' ⟨n, rfl, hn, hg, rfl⟩
  have HG := Lib.hid hg
  clear hg
  go_wp2_with fail
  go_loopw [3, 4, 5, 6] (fun out at_ _ _ wr => ∃ (k : Nat) (D : List Lx.Tok), k ≤ s.size ∧ at_ = .int .i64 (k : Nat) ∧ Hid (Going s w' w'.heap.size k out D wr)) (fun _ at_ _ _ _ => s.size - (intOf at_).toNat)
  case atStart => exact ⟨n, [], hn, rfl, OwnL.isNil _ _ _ _, Below.refl _ _, Nat.le_refl _, fun T h => HG.out.1.2 0 T (by simpa using h), (by have := HG.out.2; rwa [HL.out] at this), by simp⟩
  case round =>
   obtain ⟨k, D, hk, rfl, hgo⟩ := hrel
   by_cases hlt : k < s.size
   ·have hd : (s.extract k s.size).data.toList = s.data.toList.drop k := Lx.data_from s k
    have hz1 : (s.extract k s.size).size = s.size - k := by rw [ByteArray.size_extract]; omega
    have hcons := Lx.drop_cons s k hlt
    have htl := Lx.tokLen_le (s[k]'hlt) (s.data.toList.drop (k + 1))
    rw [← hcons, List.length_drop, HL.out] at htl
    have hpos := Lx.tokLen_pos (s.data.toList.drop k)
    have HD := Lib.hid hd
    have HZ1 := Lib.hid hz1
    generalize htn : Lx.tokLen (s.data.toList.drop k) = tn at *
    have hd2 : s.extract k (k + tn) = (Lx.tokOf (s.data.toList.drop k) k).text := by rw [Lx.mk_extract]; unfold Lx.tokOf; rw [htn, Nat.add_sub_cancel_left]
    have HTN := Lib.hid htn
    have HD2 := Lib.hid hd2
    have hd3 : (s.extract (k + tn) s.size).data.toList = s.data.toList.drop (k + tn) := Lx.data_from s _
    have hz3 : (s.extract (k + tn) s.size).size = s.size - (k + tn) := by rw [ByteArray.size_extract]; omega
    have HD3 := Lib.hid hd3
    have HZ3 := Lib.hid hz3
    have hlen := hgo.out.len
    have R := toks_room (n := D.length) (m := 1) (by omega) (by omega)
    have R1 := Lib.hid R.1
    have R2 := Lib.hid R.2
    clear hd hz1 hcons htn hd2 hd3 hz3 R
    go_wp2_with fail
    refine (first_any _ _ (by rw [HZ1.out]; omega) (by rw [HZ1.out]; omega)).mono ?_
    rintro e w1 ⟨rfl, rfl⟩
    rw [HD.out, HTN.out]
    go_wp2_with (at_builtin; go_must (refine wpList_appendL (E := tokEnc) (o := ⟨some 34, _, _, _, _, _⟩) Tryz.underlying52 infoTok rfl rfl (.tmp 23) (.tmp 33) rfl w'.heap.size _ D rfl (hgo.out.own.alloc _) _ 1 1 [Lx.tokOf (s.data.toList.drop k) k] rfl rfl (lies_tok (by simp [go_sem, Lx.tokOf]) (by rw [← HD2.out]; simp [go_sem]) (by simp [go_sem, Lx.tokOf])) (fun h => by cases h) R1.out R2.out (by have := hgo.out.siz; simp; omega) ?_; intro out2 w2 hown2 hb2))
    have hbel : Below w'.heap.size w1 w2 := ((Below.refl _ w1).alloc hgo.out.siz _).trans hb2
    have HB2 := Lib.hid hbel
    have HO2 := Lib.hid hown2
    clear hb2 hown2 hbel
    refine (gap_any _ _ (by rw [HZ3.out]; omega)).mono ?_
    rintro e w3 ⟨m, rfl, hm, hg3, rfl⟩
    rw [HZ3.out] at hm
    rw [HD3.out] at hg3
    have HST := Lib.hid (hgo.out.step hlt HTN.out.symm HO2.out HB2.out hg3)
    clear hg3
    go_wp2_with fail
    go_roundw
    case rel => exact ⟨k + tn + m, _, by omega, by go_num, HST⟩
    case measure => simp [intOf]; omega
   ·have hke : k = s.size := by omega
    subst hke
    have hlen := hgo.out.len
    have R := toks_room (n := D.length) (m := 1) (by omega) (by omega)
    have R1 := Lib.hid R.1
    have R2 := Lib.hid R.2
    clear R
    have hend : Lx.toks s = D ++ [⟨0, ByteArray.empty, (s.size : Nat)⟩] := (Lx.toks_scan s).det (hgo.out.scan _ (by rw [List.drop_of_length_le (by rw [HL.out]; omega)]; exact .fin _))
    have HE := Lib.hid hend
    clear hend
    go_wp2_with (at_builtin; go_must (refine wpList_appendL (E := tokEnc) (o := ⟨some 49, _, _, _, _, _⟩) Tryz.underlying52 infoTok rfl rfl (.tmp 44) (.tmp 48) rfl w'.heap.size _ D rfl (hgo.out.own.alloc _) _ 1 1 [⟨0, ByteArray.empty, (s.size : Nat)⟩] rfl rfl (lies_tok (by simp [go_sem]) (by simp [go_sem]; rfl) (by simp [go_sem])) (fun h => by cases h) R1.out R2.out (by have := hgo.out.siz; simp; omega) ?_; intro out2 w2 hown2 hb2))
    have hbel : Below w'.heap.size w' w2 := (hgo.out.bel.alloc hgo.out.siz _).trans hb2
    go_ret
    exact ⟨_, rfl, by rw [HZ.out, HE.out]; exact hown2.sl, hbel⟩
end Go.Proofs.YtheigpiffdabnaaGreat
