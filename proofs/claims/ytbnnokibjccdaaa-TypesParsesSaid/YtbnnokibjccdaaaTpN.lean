/-
  CONTRACT: types.variable: the number of a variable.
-/
import Derived.Test.YtbnnokibjccdaaaTpV
import Derived.Test.YtbnnokibjccdaaaTpS
import Derived.IntWalk
namespace Go.Proofs.Ytbnnokibjccdaaa
open Go Go.RowKit
set_option linter.unusedVariables false
set_option linter.unusedSimpArgs false

theorem varL_cons (a c : UInt8) (l : List UInt8) : varL (a :: c :: l) = if a.toNat = 63 then (if c.toNat = 48 ∧ 0 < l.length then -1 else digsV (c :: l) 0) else -1 := rfl
theorem varL_short (l : List UInt8) (h : l.length < 2) : varL l = -1 := by
  match l, h with
  | [], _ => rfl
  | [a], _ => rfl
  | a :: c :: l, h => simp at h; omega
theorem varL_mark {l : List UInt8} (h : 2 ≤ l.length) (h0 : l[0].toNat ≠ 63) : varL l = -1 := by
  match l, h with
  | a :: c :: l, _ =>
    have h0' : a.toNat ≠ 63 := h0
    rw [varL_cons]
    rw [if_neg h0']
theorem varL_zero {l : List UInt8} (h : 3 ≤ l.length) (h1 : l[1].toNat = 48) : varL l = -1 := by
  match l, h with
  | a :: c :: d :: l, _ =>
    have h1' : c.toNat = 48 := h1
    rw [varL_cons]
    by_cases h0 : a.toNat = 63
    · rw [if_pos h0, if_pos ⟨h1', by simp⟩]
    · rw [if_neg h0]
theorem varL_digs {l : List UInt8} (h : 2 ≤ l.length) (h0 : l[0].toNat = 63) (h1 : ¬ (l[1].toNat = 48 ∧ 3 ≤ l.length)) : varL l = digsV (l.drop 1) 0 := by
  match l, h with
  | a :: c :: l, _ =>
    have h0' : a.toNat = 63 := h0
    have h1' : ¬ (c.toNat = 48 ∧ 0 < l.length) := fun e => h1 ⟨e.1, by have := e.2; simp; omega⟩
    rw [varL_cons]
    rw [if_pos h0', if_neg h1']
    rfl
theorem digsV_cons (c : UInt8) (l : List UInt8) (k : Nat) : digsV (c :: l) k = if c.toNat < 48 ∨ 57 < c.toNat then -1 else if 1000000 < k * 10 + (c.toNat - 48) then -1 else digsV l (k * 10 + (c.toNat - 48)) := rfl
theorem list_get (s : ByteArray) (j : Nat) (h : j < s.size) (h' : j < s.data.toList.length) : s.data.toList[j] = s[j] := by simp [ByteArray.getElem_eq_getElem_data]
theorem ext_get (s : ByteArray) (j : Nat) (h : j + 1 < s.size) (h' : j < (s.extract 1 s.size).size) : (s.extract 1 s.size)[j] = s[j + 1] := by
  rw [ByteArray.getElem_extract]
  congr 1
  omega
theorem digsV_ext (s : ByteArray) (j m : Nat) (h : j < (s.extract 1 s.size).size) : digsV ((s.data.toList.drop 1).drop j) m = digsV ((s.extract 1 s.size)[j] :: (s.data.toList.drop 1).drop (j + 1)) m := by
  have h2 : j + 1 < s.size := by rw [ByteArray.size_extract] at h; omega
  rw [ext_get s j h2 h, List.drop_drop, List.drop_drop, ← list_get s (j + 1) h2 h2, show 1 + j = j + 1 by omega, List.drop_eq_getElem_cons (i := j + 1) h2, show 1 + (j + 1) = j + 1 + 1 by omega]

set_option maxHeartbeats 2000000 in
set_option maxRecDepth 100000 in
theorem variable_any (s : ByteArray) (p : Option Addr) (n c : Nat) (w : World) (hs : s.size ≤ 1000000000000) : Calls Try.prog 68 #[.agg #[.string s, .slice p n c]] w fun e w' => e = .returned (.int .i64 (varV s n)) ∧ Below w.heap.size w w' := by
  have HB := Lib.hid (below_box w (.cells #[.string s, .slice p n c] 24))
  obtain ⟨x0, x1⟩ := box_p w ⟨s, p, n, c⟩ 24
  simp only [Nat.zero_add] at x0 x1
  have hlen : s.data.toList.length = s.size := rfl
  by_cases hn : 0 < n
  · have hni : (0 : Int) < (n : Int) := by omega
    have hv := Lib.hid (show varV s n = -1 by unfold varV; rw [if_pos hn])
    clear hlen
    go_enter Try.func68, Try.ntmps68
    go_wp2_with fail
    go_ret
    exact ⟨by rw [hv.out]; rfl, HB.out⟩
  · obtain rfl : n = 0 := by omega
    clear hn
    have hvl : varV s 0 = varL s.data.toList := by unfold varV; rw [if_neg (by omega)]
    rw [hvl]
    clear hvl
    by_cases h2 : s.size < 2
    · have h2i : (s.size : Int) < 2 := by omega
      have hv := Lib.hid (varL_short s.data.toList (by rw [hlen]; exact h2))
      clear hlen
      go_enter Try.func68, Try.ntmps68
      go_wp2_with fail
      go_ret
      exact ⟨by rw [hv.out]; rfl, HB.out⟩
    · have h2i : ¬ (s.size : Int) < 2 := by omega
      have hg0 := list_get s 0 (by omega) (by omega)
      have hg1 := list_get s 1 (by omega) (by omega)
      by_cases h63 : (s[0]'(by omega)).toNat = 63
      · have hne : (((s[0]'(by omega)).toNat : Int) != 63) = false := by rw [h63]; rfl
        have hd0 : 0 < (s.extract 1 s.size).size := by rw [ByteArray.size_extract]; omega
        have he0 := ext_get s 0 (by omega) hd0
        by_cases hz : (s[1]'(by omega)).toNat = 48 ∧ 3 ≤ s.size
        · have hv := Lib.hid (varL_zero (l := s.data.toList) (by omega) (by rw [hg1]; exact hz.1))
          have hz1 : (((s.extract 1 s.size)[0]'hd0).toNat : Int) = 48 := by rw [he0, hz.1]; rfl
          have hz2 : (1 : Int) < ((s.size - 1 : Nat) : Int) := by omega
          clear hg0 hg1 he0 hz
          go_enter Try.func68, Try.ntmps68
          go_wp2_with fail
          go_ret
          exact ⟨by rw [hv.out]; rfl, HB.out⟩
        · have hv := Lib.hid (varL_digs (l := s.data.toList) (by omega) (by rw [hg0]; exact h63) (by rw [hg1]; exact hz))
          have hvs := Lib.hid (digsV_ext s)
          have hz3 : (((s.extract 1 s.size)[0]'hd0).toNat : Int) = 48 → ¬ (1 : Int) < ((s.size - 1 : Nat) : Int) := fun e => by
            rw [he0] at e
            have e2 : (s[1]'(by omega)).toNat = 48 := Int.ofNat.inj e
            omega
          clear hg0 hg1 he0 hz
          go_enter Try.func68, Try.ntmps68
          go_wp2_with fail
          all_goals clear x0 x1 hne h63
          all_goals generalize hW : w.alloc (.cells #[.string s, .slice p 0 c] 24) = w2 at *
          all_goals
            go_loopw [4, 35] (fun k i wr => ∃ (j m : Nat), j ≤ s.size - 1 ∧ i = .int .i64 j ∧ k = .int .i64 m ∧ m ≤ 1000000 ∧ wr = w2 ∧ Hid (varL s.data.toList = digsV ((s.data.toList.drop 1).drop j) m)) (fun _ i _ => s.size - 1 - (intOf i).toNat)
            case atStart => exact ⟨0, 0, Nat.zero_le _, rfl, rfl, by omega, rfl, hv.out⟩
            case round =>
              obtain ⟨j, m, hj, rfl, rfl, hm, hwr, HD⟩ := hrel
              subst hwr
              clear hz3
              by_cases hlt : j < s.size - 1
              · have hde : j < (s.extract 1 s.size).size := by rw [ByteArray.size_extract]; omega
                have hst := hvs.out j m hde
                rw [digsV_cons, ← HD.out] at hst
                by_cases hx : ((s.extract 1 s.size)[j]'hde).toNat < 48
                · rw [if_pos (Or.inl hx)] at hst
                  have HM := Lib.hid hst
                  have hxi : ((((s.extract 1 s.size)[j]'hde).toNat : Nat) : Int) < 48 := by omega
                  clear hst
                  go_wp2_with fail
                  go_ret
                  exact ⟨by rw [HM.out]; rfl, HB.out⟩
                · have hxi : ¬ ((((s.extract 1 s.size)[j]'hde).toNat : Nat) : Int) < 48 := by omega
                  by_cases hy : 57 < ((s.extract 1 s.size)[j]'hde).toNat
                  · rw [if_pos (Or.inr hy)] at hst
                    have HM := Lib.hid hst
                    have hyi : (57 : Int) < ((((s.extract 1 s.size)[j]'hde).toNat : Nat) : Int) := by omega
                    clear hst
                    go_wp2_with fail
                    go_ret
                    exact ⟨by rw [HM.out]; rfl, HB.out⟩
                  · have hyi : ¬ (57 : Int) < ((((s.extract 1 s.size)[j]'hde).toNat : Nat) : Int) := by omega
                    rw [if_neg (by omega)] at hst
                    obtain ⟨x, hxe⟩ : ∃ x : Nat, x = ((s.extract 1 s.size)[j]'hde).toNat - 48 := ⟨_, rfl⟩
                    have e1 : IntKind.u8.wrap (((((s.extract 1 s.size)[j]'hde).toNat : Nat) : Int) - 48) = (x : Int) := by
                      rw [show ((((s.extract 1 s.size)[j]'hde).toNat : Nat) : Int) - 48 = (x : Int) by omega]
                      exact IntWalk.u8_in _ (by omega)
                    have e2 : IntKind.i64.wrap (x : Int) = (x : Int) := IntWalk.i64_in _ (by omega)
                    have e3 : IntKind.i64.wrap ((m : Int) * 10) = (m : Int) * 10 := IntWalk.i64_in _ (by omega)
                    have e4 : IntKind.i64.wrap ((m : Int) * 10 + (x : Int)) = (m : Int) * 10 + (x : Int) := IntWalk.i64_in _ (by omega)
                    rw [← hxe] at hst
                    by_cases hb : 1000000 < m * 10 + x
                    · rw [if_pos hb] at hst
                      have HM := Lib.hid hst
                      have hbi : (1000000 : Int) < (m : Int) * 10 + (x : Int) := by omega
                      clear hst hxe
                      go_wp2_with fail
                      go_ret
                      exact ⟨by rw [HM.out]; rfl, HB.out⟩
                    · rw [if_neg hb] at hst
                      have hbi : ¬ (1000000 : Int) < (m : Int) * 10 + (x : Int) := by omega
                      have HM := Lib.hid hst
                      clear hst hxe
                      go_wp2_with fail
                      go_roundw
                      case rel => exact ⟨j + 1, m * 10 + x, by omega, by go_num, by go_num, by omega, trivial, HM.out⟩
                      case measure => simp [intOf]; omega
              · obtain rfl : j = s.size - 1 := by omega
                have hm2 : varL s.data.toList = (m : Int) := by
                  rw [HD.out, List.drop_eq_nil_of_le (by rw [List.length_drop]; omega)]
                  rfl
                have HM := Lib.hid hm2
                clear hm2
                go_wp2_with fail
                go_ret
                exact ⟨by rw [HM.out]; rfl, HB.out⟩
      · have hne : (((s[0]'(by omega)).toNat : Int) != 63) = true := by rw [bne_iff_ne]; omega
        have hv := Lib.hid (varL_mark (l := s.data.toList) (by omega) (by rw [hg0]; exact h63))
        clear h63 hg0 hg1
        go_enter Try.func68, Try.ntmps68
        go_wp2_with fail
        go_ret
        exact ⟨by rw [hv.out]; rfl, HB.out⟩
end Go.Proofs.Ytbnnokibjccdaaa
