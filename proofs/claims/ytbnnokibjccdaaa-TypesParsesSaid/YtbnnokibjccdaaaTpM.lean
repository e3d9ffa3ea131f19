/-
  CONTRACTS: CutPrefix of a mark of one byte; the reader's skip.
-/
import Derived.Test.YtbnnokibjccdaaaTpP
namespace Go.Proofs.Ytbnnokibjccdaaa
open Go Go.RowKit
set_option linter.unusedVariables false
set_option linter.unusedSimpArgs false

/-- a name that begins with "$" -/
def begins (c : UInt8) (s : ByteArray) : Bool := decide (∃ h : 0 < s.size, s[0] = c)
theorem begins_yes {c : UInt8} {s : ByteArray} (h : begins c s = true) : ∃ h : 0 < s.size, s[0] = c := of_decide_eq_true h
theorem begins_no {c : UInt8} {s : ByteArray} (h : ¬ begins c s = true) (h0 : 0 < s.size) : s[0] ≠ c := fun e => h (decide_eq_true ⟨h0, e⟩)
set_option maxHeartbeats 1000000 in
theorem hasMark_any (c : UInt8) (s : ByteArray) (w : World) (hs : s.size ≤ 1000000000000) : Calls Try.prog 97 #[.string s, .string ⟨#[c]⟩] w fun e w' => e = .returned (.bool (begins c s)) ∧ w' = w := by
  by_cases h0 : 0 < s.size
  · have he := ext_one s h0
    by_cases hd : begins c s = true
    · obtain ⟨_, h36⟩ := begins_yes hd
      have hq : ((s.extract 0 1).toList == [c]) = true := by
        rw [he, h36]
        exact beq_self_eq_true _
      have HD := Lib.hid hd
      clear hd he
      go_enter Try.func97, Try.ntmps97
      go_wp2_with fail
      go_ret
      exact ⟨by rw [HD.out]; rfl, rfl⟩
    · have h36 := begins_no hd h0
      have hq : ((s.extract 0 1).toList == [c]) = false := by
        rw [he, beq_eq_false_iff_ne]
        intro e
        injection e with e _
        exact h36 e
      have HD := Lib.hid (eq_false_of_ne_true hd)
      clear hd he
      go_enter Try.func97, Try.ntmps97
      go_wp2_with fail
      go_ret
      exact ⟨by rw [HD.out]; rfl, rfl⟩
  · have HD := Lib.hid (show begins c s = false from decide_eq_false fun ⟨h, _⟩ => h0 h)
    have h01 : s.size < 1 := by omega
    clear h0
    go_enter Try.func97, Try.ntmps97
    go_wp2_with fail
    go_ret
    exact ⟨by rw [HD.out]; rfl, rfl⟩
/-- what stands behind "$" -/
def restM (s : ByteArray) : ByteArray := s.extract 1 s.size
def cutM (c : UInt8) (s : ByteArray) : ByteArray := if begins c s then restM s else s
set_option maxHeartbeats 1000000 in
/-- CutPrefix of "$" -/
theorem cutMark_any (c : UInt8) (s : ByteArray) (w : World) (hs : s.size ≤ 1000000000000) : Calls Try.prog 86 #[.string s, .string ⟨#[c]⟩] w fun e w' => e = .returned (.tuple #[.string (cutM c s), .bool (begins c s)]) ∧ w' = w := by
  have HH := Lib.hid (fun w => hasMark_any c s w hs)
  by_cases hd : begins c s = true
  · have HD := Lib.hid (show cutM c s = restM s from if_pos hd)
    have HD2 := Lib.hid hd
    obtain ⟨h0, _⟩ := begins_yes hd
    rw [HD.out, hd]
    rw [hd] at HH
    clear hd
    go_enter Try.func86, Try.ntmps86
    go_wp2_with fail
    refine (HH.out _).mono ?_
    rintro e w' ⟨rfl, rfl⟩
    go_wp2_with fail
    go_ret2
    exact ⟨rfl, rfl⟩
  · have HD := Lib.hid (show cutM c s = s from if_neg hd)
    have hd2 := eq_false_of_ne_true hd
    rw [HD.out, hd2]
    rw [hd2] at HH
    clear hd hd2
    go_enter Try.func86, Try.ntmps86
    go_wp2_with fail
    refine (HH.out _).mono ?_
    rintro e w' ⟨rfl, rfl⟩
    go_wp2_with fail
    go_ret2
    exact ⟨rfl, rfl⟩
theorem cutMark2_any (c : UInt8) (s : ByteArray) (w : World) (hs : s.size ≤ 1000000000000) : Calls Try.prog 77 #[.string s, .string ⟨#[c]⟩] w fun e w' => e = .returned (.tuple #[.string (cutM c s), .bool (begins c s)]) ∧ w' = w := by
  have HH := Lib.hid (fun w => cutMark_any c s w hs)
  go_enter Try.func77, Try.ntmps77
  go_wp2_with fail
  refine (HH.out _).mono ?_
  rintro e w' ⟨rfl, rfl⟩
  go_wp2_with fail
  go_ret2
  exact ⟨rfl, rfl⟩
/-- a reader as it lies -/
structure RdP (w : World) (b : Nat) (s : ByteArray) (k : Nat) : Prop where
  c0 : w.cell? ⟨b, 0, none⟩ = some (.string s)
  c1 : w.cell? ⟨b, 1, none⟩ = some (.int .i64 (k : Int))
  warm : ∀ i, w.frozen? ⟨b, i, none⟩ = false
set_option maxHeartbeats 1000000 in
/-- skip -/
theorem skip_any (c : UInt8) (b k : Nat) (s : ByteArray) (w : World) (h : RdP w b s k) (hs : s.size ≤ 1000000000000) : Calls Try.prog 60 #[.pointer (some ⟨b, 0, none⟩), .string ⟨#[c]⟩] w fun e w' => e = .returned (.bool (begins c s)) ∧ w' = w.setCell ⟨b, 0, none⟩ (.string (cutM c s)) := by
  have HH := Lib.hid (fun w => cutMark2_any c s w hs)
  obtain ⟨x0, x1, f⟩ := h
  have f0 := f 0
  clear f
  go_enter Try.func60, Try.ntmps60
  go_wp2_with fail
  refine (HH.out _).mono ?_
  rintro e w' ⟨rfl, rfl⟩
  go_wp2_with fail
  go_ret
  exact ⟨rfl, rfl⟩
theorem RdP.set {w : World} {b k : Nat} {s : ByteArray} (h : RdP w b s k) (u : ByteArray) : RdP (w.setCell ⟨b, 0, none⟩ (.string u)) b u k := by
  obtain ⟨x0, x1, f⟩ := h
  refine ⟨World.cell?_setCell_same w _ _ (by rw [x0]), ?_, fun i => by rw [World.frozen?_setCell]; exact f i⟩
  rw [World.cell?_setCell_other _ _ _ _ (fun e => by injection e with _ e _; cases e)]
  exact x1
end Go.Proofs.Ytbnnokibjccdaaa
