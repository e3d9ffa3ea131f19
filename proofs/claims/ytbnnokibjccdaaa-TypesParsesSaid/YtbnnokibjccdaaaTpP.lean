/-
  CONTRACTS: parameter, the program's and the reference's.
-/
import Derived.Test.YtbnnokibjccdaaaTpN
namespace Go.Proofs.Ytbnnokibjccdaaa
open Go Go.RowKit
set_option linter.unusedVariables false
set_option linter.unusedSimpArgs false

/-- a name that begins with "$" -/
def dollar (s : ByteArray) : Bool := decide (∃ h : 0 < s.size, s[0].toNat = 36)
theorem dollar_yes {s : ByteArray} (h : dollar s = true) : ∃ h : 0 < s.size, s[0].toNat = 36 := of_decide_eq_true h
theorem dollar_no {s : ByteArray} (h : ¬ dollar s = true) (h0 : 0 < s.size) : s[0].toNat ≠ 36 := fun e => h (decide_eq_true ⟨h0, e⟩)
theorem ext_one (s : ByteArray) (h : 0 < s.size) : (s.extract 0 1).toList = [s[0]] := by
  have h2 : 0 < s.data.toList.length := h
  have e : (s.extract 0 1).data.toList = s.data.toList.take (0 + 1) := by simp
  rw [ByteArray.toList_eq, e, List.take_add_one, List.getElem?_eq_getElem h2, list_get s 0 h h2]
  rfl

set_option maxHeartbeats 1000000 in
theorem hasDollar_any (s : ByteArray) (w : World) (hs : s.size ≤ 1000000000000) : Calls Try.prog 97 #[.string s, .string ⟨#[36]⟩] w fun e w' => e = .returned (.bool (dollar s)) ∧ w' = w := by
  by_cases h0 : 0 < s.size
  · have he := ext_one s h0
    by_cases hd : dollar s = true
    · obtain ⟨_, h36⟩ := dollar_yes hd
      have hq : ((s.extract 0 1).toList == [36]) = true := by
        rw [he, show s[0] = 36 from UInt8.toNat_inj.1 h36]
        rfl
      have HD := Lib.hid hd
      clear hd he
      go_enter Try.func97, Try.ntmps97
      go_wp2_with fail
      go_ret
      exact ⟨by rw [HD.out]; rfl, rfl⟩
    · have h36 := dollar_no hd h0
      have hq : ((s.extract 0 1).toList == [36]) = false := by
        rw [he, beq_eq_false_iff_ne]
        intro e
        injection e with e _
        exact h36 (by rw [e]; rfl)
      have HD := Lib.hid (eq_false_of_ne_true hd)
      clear hd he
      go_enter Try.func97, Try.ntmps97
      go_wp2_with fail
      go_ret
      exact ⟨by rw [HD.out]; rfl, rfl⟩
  · have HD := Lib.hid (show dollar s = false from decide_eq_false fun ⟨h, _⟩ => h0 h)
    have h01 : s.size < 1 := by omega
    clear h0
    go_enter Try.func97, Try.ntmps97
    go_wp2_with fail
    go_ret
    exact ⟨by rw [HD.out]; rfl, rfl⟩
/-- what stands behind "$" -/
def dollarN (s : ByteArray) : ByteArray := s.extract 1 s.size
def cutN (s : ByteArray) : ByteArray := if dollar s then dollarN s else s
set_option maxHeartbeats 1000000 in
/-- CutPrefix of "$" -/
theorem cutDollar_any (s : ByteArray) (w : World) (hs : s.size ≤ 1000000000000) : Calls Try.prog 86 #[.string s, .string ⟨#[36]⟩] w fun e w' => e = .returned (.tuple #[.string (cutN s), .bool (dollar s)]) ∧ w' = w := by
  have HH := Lib.hid (fun w => hasDollar_any s w hs)
  by_cases hd : dollar s = true
  · have HD := Lib.hid (show cutN s = dollarN s from if_pos hd)
    have HD2 := Lib.hid hd
    obtain ⟨h0, _⟩ := dollar_yes hd
    rw [HD.out, hd]
    rw [hd] at HH
    clear hd
    go_enter Try.func86, Try.ntmps86
    go_wp2_with fail
    refine (HH.out _).mono ?_
    rintro e w' ⟨rfl, rfl⟩
    go_wp2_with fail
    go_ret2
    exact ⟨rfl, rfl⟩
  · have HD := Lib.hid (show cutN s = s from if_neg hd)
    have hd2 := eq_false_of_ne_true hd
    rw [HD.out, hd2]
    rw [hd2] at HH
    clear hd hd2
    go_enter Try.func86, Try.ntmps86
    go_wp2_with fail
    refine (HH.out _).mono ?_
    rintro e w' ⟨rfl, rfl⟩
    go_wp2_with fail
    go_ret2
    exact ⟨rfl, rfl⟩
theorem cutDollar2_any (s : ByteArray) (w : World) (hs : s.size ≤ 1000000000000) : Calls Try.prog 77 #[.string s, .string ⟨#[36]⟩] w fun e w' => e = .returned (.tuple #[.string (cutN s), .bool (dollar s)]) ∧ w' = w := by
  have HH := Lib.hid (fun w => cutDollar_any s w hs)
  go_enter Try.func77, Try.ntmps77
  go_wp2_with fail
  refine (HH.out _).mono ?_
  rintro e w' ⟨rfl, rfl⟩
  go_wp2_with fail
  go_ret2
  exact ⟨rfl, rfl⟩
/-- whether a type is a parameter that can be replaced -/
def parB (s : ByteArray) (n : Nat) : Bool := decide (n = 0) && dollar s
set_option maxHeartbeats 1000000 in
/-- parameter -/
theorem parameter_any (s : ByteArray) (p : Option Addr) (n c : Nat) (w : World) (hs : s.size ≤ 1000000000000) : Calls Try.prog 73 #[.agg #[.string s, .slice p n c]] w fun e w' => (∃ x : ByteArray, e = .returned (.tuple #[.string x, .bool (parB s n)]) ∧ (parB s n = true → x = dollarN s)) ∧ Below w.heap.size w w' := by
  have HB := Lib.hid (below_box w (.cells #[.string s, .slice p n c] 24))
  obtain ⟨x0, x1⟩ := box_p w ⟨s, p, n, c⟩ 24
  simp only [Nat.zero_add] at x0 x1
  have HH := Lib.hid (fun w => cutDollar2_any s w hs)
  by_cases hn : 0 < n
  · have hni : (0 : Int) < (n : Int) := by omega
    have hv : parB s n = false := by unfold parB; rw [decide_eq_false (by omega)]; rfl
    rw [hv]
    clear hv
    go_enter Try.func73, Try.ntmps73
    go_wp2_with fail
    go_ret2
    exact ⟨⟨_, rfl, fun e => by cases e⟩, HB.out⟩
  · obtain rfl : n = 0 := by omega
    have hv : parB s 0 = dollar s := by unfold parB; rw [decide_eq_true rfl, Bool.true_and]
    rw [hv]
    clear hn hv
    go_enter Try.func73, Try.ntmps73
    go_wp2_with fail
    refine (HH.out _).mono ?_
    rintro e w' ⟨rfl, rfl⟩
    go_wp2_with fail
    go_ret2
    exact ⟨⟨_, rfl, fun e => if_pos e⟩, HB.out⟩
set_option maxHeartbeats 1000000 in
/-- the reference's parameter -/
theorem rparameter_any (s : ByteArray) (p : Option Addr) (n c : Nat) (w : World) (hs : s.size ≤ 1000000000000) : Calls Try.prog 41 #[.agg #[.string s, .slice p n c]] w fun e w' => e = .returned (.tuple #[.string (if parB s n then dollarN s else ⟨#[]⟩), .bool (parB s n)]) ∧ Below w.heap.size w w' := by
  have HB := Lib.hid (below_box w (.cells #[.string s, .slice p n c] 24))
  obtain ⟨x0, x1⟩ := box_p w ⟨s, p, n, c⟩ 24
  simp only [Nat.zero_add] at x0 x1
  by_cases h0 : 0 < s.size
  · have h0i : (0 : Int) < (s.size : Int) := by omega
    by_cases hd : dollar s = true
    · obtain ⟨_, h36⟩ := dollar_yes hd
      have h36i : (((s[0].toNat : Nat) : Int) == 36) = true := by rw [h36]; rfl
      by_cases hn : n = 0
      · subst hn
        have hv : parB s 0 = true := by unfold parB; rw [hd]; rfl
        rw [hv, if_pos rfl]
        have hde : dollarN s = s.extract 1 s.size := rfl
        rw [hde]
        clear hd h36 hv hde
        go_enter Try.func41, Try.ntmps41
        go_wp2_with fail
        go_ret2
        exact ⟨rfl, HB.out⟩
      · have hni : ((n : Int) == 0) = false := by rw [beq_eq_false_iff_ne]; omega
        have hv : parB s n = false := by unfold parB; rw [decide_eq_false hn]; rfl
        rw [hv, if_neg (by decide)]
        clear hd h36 hv hn
        go_enter Try.func41, Try.ntmps41
        go_wp2_with fail
        go_ret2
        exact ⟨rfl, HB.out⟩
    · have h36 := dollar_no hd h0
      have h36i : (((s[0].toNat : Nat) : Int) == 36) = false := by rw [beq_eq_false_iff_ne]; omega
      have hv : parB s n = false := by unfold parB; rw [eq_false_of_ne_true hd, Bool.and_false]
      rw [hv, if_neg (by decide)]
      clear hd h36 hv
      go_enter Try.func41, Try.ntmps41
      go_wp2_with fail
      go_ret2
      exact ⟨rfl, HB.out⟩
  · have h0i : ¬ (0 : Int) < (s.size : Int) := by omega
    have hv : parB s n = false := by unfold parB; rw [show dollar s = false from decide_eq_false fun ⟨h, _⟩ => h0 h, Bool.and_false]
    rw [hv, if_neg (by decide)]
    clear hv
    go_enter Try.func41, Try.ntmps41
    go_wp2_with fail
    go_ret2
    exact ⟨rfl, HB.out⟩
end Go.Proofs.Ytbnnokibjccdaaa
