/-
  CONTRACTS: the lexer's tests of bytes and words, and the reference's.
-/
import Derived.Test.YtheigpiffdabnaaGreatZA1
import Derived.Test.YtheigpiffdabnaaGreatZA2
import Derived.Test.YtheigpiffdabnaaGreatChecked
import Derived.WalkKit
import Derived.WalkSpells
import Derived.WalkLawsBesides
import Derived.KernelRfl
set_option linter.unusedVariables false
namespace Go.Proofs.YtheigpiffdabnaaGreat
open Go.RowKit
theorem lexBlank_any (c : Int) (w : World) :
  Calls Tryz.prog 34 #[.int .u8 c] w fun e w' => e = .returned (.bool (Lx.blankI c)) ∧ w' = w := by
 go_enter Tryz.func34, Tryz.ntmps34
 go_wp2
 all_goals go_ret
 all_goals refine ⟨ret_bool ?_, rfl⟩
 all_goals first | (rw [Bool.eq_iff_iff]; simp [Lx.blankI]; omega) | (simp [Lx.blankI]; omega) | (simp_all [Lx.blankI])
theorem lexDigit_any (c : Int) (w : World) :
  Calls Tryz.prog 51 #[.int .u8 c] w fun e w' => e = .returned (.bool (Lx.digI c)) ∧ w' = w := by
 go_enter Tryz.func51, Tryz.ntmps51
 go_wp2
 all_goals go_ret
 all_goals refine ⟨ret_bool ?_, rfl⟩
 all_goals first | (rw [Bool.eq_iff_iff]; simp [Lx.digI]; omega) | (simp [Lx.digI]; omega)
theorem lexLetter_any (c : Int) (w : World) :
  Calls Tryz.prog 50 #[.int .u8 c] w fun e w' => e = .returned (.bool (Lx.ltrI c)) ∧ w' = w := by
 go_enter Tryz.func50, Tryz.ntmps50
 go_wp2
 all_goals go_ret
 all_goals refine ⟨ret_bool ?_, rfl⟩
 all_goals first | (rw [Bool.eq_iff_iff]; simp [Lx.ltrI]; omega) | (simp [Lx.ltrI]; omega)
set_option maxHeartbeats 1000000 in
theorem lexOneMark_any (c : Int) (w : World) :
  Calls Tryz.prog 55 #[.int .u8 c] w fun e w' => e = .returned (.bool (Lx.markI c)) ∧ w' = w := by
 go_enter Tryz.func55, Tryz.ntmps55
 go_wp2
 all_goals go_ret
 all_goals refine ⟨ret_bool ?_, rfl⟩
 all_goals simp_all [Lx.markI]
theorem toList_d (s : ByteArray) : s.toList = s.data.toList := ByteArray.toList_eq s
theorem two_yes {s : ByteArray} {l : List UInt8} (h : (s.toList == l) = true) (hl : l ∈ [[38, 38], [124, 124], [61, 61], [45, 62]]) : true = Lx.twoM s.data.toList := by
 have e : s.data.toList = l := by rw [← toList_d]; simpa using h
 rw [e]
 unfold Lx.twoM
 simp at hl
 rw [decide_eq_true hl]
theorem two_no {s : ByteArray} (h1 : (s.toList == [38, 38]) = false) (h2 : (s.toList == [124, 124]) = false) (h3 : (s.toList == [61, 61]) = false) (h4 : (s.toList == [45, 62]) = false) : false = Lx.twoM s.data.toList := by
 rw [toList_d] at *
 simp at h1 h2 h3 h4
 unfold Lx.twoM
 rw [decide_eq_false (by simp [h1, h2, h3, h4])]
set_option maxHeartbeats 1000000 in
theorem lexTwoMark_any (s : ByteArray) (w : World) :
  Calls Tryz.prog 54 #[.string s] w fun e w' => e = .returned (.bool (Lx.twoM s.data.toList)) ∧ w' = w := by
 go_enter Tryz.func54, Tryz.ntmps54
 go_wp2
 all_goals go_ret
 all_goals refine ⟨ret_bool ?_, rfl⟩
 all_goals first | exact two_no (by assumption) (by assumption) (by assumption) (by assumption) | exact two_yes (by assumption) (by simp) | simp_all
set_option maxHeartbeats 4000000 in
theorem lexReserved_any (s : ByteArray) (w : World) :
  Calls Tryz.prog 53 #[.string s] w fun e w' => e = .returned (.bool (Lx.resL s.data.toList)) ∧ w' = w := by
 by_cases h : Lx.resL s.data.toList = true
 ·have hm : s.data.toList ∈ Lx.words := by unfold Lx.resL at h; exact of_decide_eq_true h
  rw [h]
  rw [← toList_d] at hm
  clear h
  simp only [Lx.words, List.mem_cons, List.not_mem_nil, or_false] at hm
  rcases hm with h | h | h | h | h | h | h | h | h | h | h | h | h | h | h | h | h | h | h | h | h
  all_goals
   go_enter Tryz.func53, Tryz.ntmps53
   go_wp2
   go_ret
   exact ⟨rfl, rfl⟩
 ·have hb : Lx.resL s.data.toList = false := by simpa using h
  have hm : s.toList ∉ Lx.words := by rw [toList_d]; unfold Lx.resL at hb; exact of_decide_eq_false hb
  rw [hb]
  clear h hb
  simp only [Lx.words, List.mem_cons, List.not_mem_nil, or_false, not_or] at hm
  obtain ⟨h1, h2, h3, h4, h5, h6, h7, h8, h9, h10, h11, h12, h13, h14, h15, h16, h17, h18, h19, h20, h21⟩ := hm
  replace h1 := beq_eq_false_iff_ne.2 h1
  replace h2 := beq_eq_false_iff_ne.2 h2
  replace h3 := beq_eq_false_iff_ne.2 h3
  replace h4 := beq_eq_false_iff_ne.2 h4
  replace h5 := beq_eq_false_iff_ne.2 h5
  replace h6 := beq_eq_false_iff_ne.2 h6
  replace h7 := beq_eq_false_iff_ne.2 h7
  replace h8 := beq_eq_false_iff_ne.2 h8
  replace h9 := beq_eq_false_iff_ne.2 h9
  replace h10 := beq_eq_false_iff_ne.2 h10
  replace h11 := beq_eq_false_iff_ne.2 h11
  replace h12 := beq_eq_false_iff_ne.2 h12
  replace h13 := beq_eq_false_iff_ne.2 h13
  replace h14 := beq_eq_false_iff_ne.2 h14
  replace h15 := beq_eq_false_iff_ne.2 h15
  replace h16 := beq_eq_false_iff_ne.2 h16
  replace h17 := beq_eq_false_iff_ne.2 h17
  replace h18 := beq_eq_false_iff_ne.2 h18
  replace h19 := beq_eq_false_iff_ne.2 h19
  replace h20 := beq_eq_false_iff_ne.2 h20
  replace h21 := beq_eq_false_iff_ne.2 h21
  go_enter Tryz.func53, Tryz.ntmps53
  go_wp2
  go_ret
  exact ⟨rfl, rfl⟩
end Go.Proofs.YtheigpiffdabnaaGreat
