/-
  PLAIN: the first mark of a text.
-/
import Derived.Test.YtbnnokibjccdaaaTpQ0
import Derived.Lib.IndexAny
import Derived.Lib.Hide
namespace Go.Proofs.Ytbnnokibjccdaaa
open Go Go.RowKit
set_option linter.unusedVariables false
set_option linter.unusedSimpArgs false

def marks : List UInt8 := [60, 62, 44]
theorem marks_plb (c : UInt8) : marks.contains c = !plb c := by
  unfold plb marks
  by_cases h1 : c = 60
  · subst h1; decide
  · by_cases h2 : c = 62
    · subst h2; decide
    · by_cases h3 : c = 44
      · subst h3; decide
      · simp [h1, h2, h3, bne]
/-- how many bytes come before the first mark -/
def mkN (s : ByteArray) : Nat := (s.data.toList.takeWhile plb).length
theorem len_take_drop (l : List UInt8) : (l.takeWhile plb).length + (l.dropWhile plb).length = l.length := by
  rw [← List.length_append, List.takeWhile_append_dropWhile]
theorem indexAny_plb : ∀ l : List UInt8, Lib.indexAny l marks = if (l.takeWhile plb).length < l.length then ((l.takeWhile plb).length : Int) else -1
  | [] => rfl
  | c :: l => by
    have ih := indexAny_plb l
    rw [Lib.indexAny, marks_plb]
    cases h : plb c with
    | false => simp [List.takeWhile_cons, h]
    | true =>
      have e : ((c :: l).takeWhile plb).length = (l.takeWhile plb).length + 1 := by simp [List.takeWhile_cons, h]
      rw [e, List.length_cons]
      by_cases h2 : (l.takeWhile plb).length < l.length
      · rw [if_pos h2] at ih
        rw [if_neg (show ¬ ((!true) = true) by decide), ih, if_neg (show ¬ ((((l.takeWhile plb).length : Int) == -1) = true) by simp), if_pos (by omega)]
        push_cast
        rfl
      · rw [if_neg h2] at ih
        rw [if_neg (show ¬ ((!true) = true) by decide), ih, if_neg (show ¬ (l.takeWhile plb).length + 1 < l.length + 1 by omega)]
        rfl
theorem data_len (s : ByteArray) : s.data.toList.length = s.size := rfl
theorem mkN_le (s : ByteArray) : mkN s ≤ s.size := by
  have := len_take_drop s.data.toList
  rw [data_len] at this
  unfold mkN
  omega
theorem extract_dataT (s : ByteArray) (a b : Nat) : (s.extract a b).data.toList = (s.data.toList.drop a).take (b - a) := by
  rw [ByteArray.data_extract, Array.toList_extract]
/-- the name that comes first, and what follows it -/
def nmB (s : ByteArray) : ByteArray := s.extract 0 (mkN s)
def rsB (s : ByteArray) : ByteArray := s.extract (mkN s) s.size
theorem take_span (l : List UInt8) : l.take (l.takeWhile plb).length = l.takeWhile plb ∧ l.drop (l.takeWhile plb).length = l.dropWhile plb := by
  have e : l = l.takeWhile plb ++ l.dropWhile plb := (List.takeWhile_append_dropWhile).symm
  generalize l.takeWhile plb = a at *
  generalize l.dropWhile plb = d at *
  subst e
  exact ⟨List.take_left, List.drop_left⟩
theorem nmB_data (s : ByteArray) : (nmB s).data.toList = s.data.toList.takeWhile plb := by
  unfold nmB
  rw [extract_dataT, List.drop_zero, Nat.sub_zero]
  exact (take_span _).1
theorem rsB_data (s : ByteArray) : (rsB s).data.toList = s.data.toList.dropWhile plb := by
  unfold rsB
  rw [extract_dataT]
  have h := len_take_drop s.data.toList
  rw [data_len] at h
  unfold mkN
  rw [List.take_of_length_le (by rw [List.length_drop, data_len]; omega)]
  exact (take_span _).2
theorem rsB_size (s : ByteArray) : (rsB s).size + mkN s = s.size := by
  have h := len_take_drop s.data.toList
  have h2 := rsB_data s
  rw [data_len] at h
  unfold mkN
  rw [← data_len (rsB s), h2]
  omega
/-- what IndexAny gives -/
theorem index_marks (s : ByteArray) : Lib.indexAny s.data.toList marks = if mkN s < s.size then (mkN s : Int) else -1 := indexAny_plb _
theorem nmB_all (s : ByteArray) (h : ¬ mkN s < s.size) : nmB s = s ∧ rsB s = ByteArray.empty := by
  have h1 := mkN_le s
  have e : mkN s = s.size := by omega
  unfold nmB rsB
  rw [e]
  refine ⟨ByteArray.ext ?_, ByteArray.ext ?_⟩
  · rw [ByteArray.data_extract]
    simp
  · rw [ByteArray.data_extract]
    simp
end Go.Proofs.Ytbnnokibjccdaaa
