/-
  CONTRACTS: the reference's tokens.
-/
import Derived.Test.YtflcpcefjliijaaLexC
namespace Go.Proofs.Ytflcpcefjliijaa
open Go.RowKit
set_option linter.unusedVariables false

set_option maxHeartbeats 1000000 in
theorem refKind_any (x : ByteArray) (w : World) (hs : x.size ≤ 1000000) (h0 : 0 < x.size) :
    Calls Try.prog 55 #[.string x] w fun e w' => e = .returned (.int .i64 (Lx.kindRun x.data.toList)) ∧ Below w.heap.size w w' := by
  have hd := Lx.headDig_eq x h0
  have hne : x.data.toList ≠ [] := by intro e; have : x.data.toList.length = x.size := by simp
                                      rw [e] at this; simp at this; omega
  cases hh : Lx.headDig x.data.toList
  · have hn : Lx.numL x.data.toList = false := by
      cases hn : Lx.numL x.data.toList
      · rfl
      · rw [Lx.num_head hn hne] at hh; cases hh
    rw [hh] at hd
    have hd' := hd.symm
    cases hr : Lx.resL x.data.toList
    all_goals
      have HK := Lib.hid (by first | exact Lx.kind_word hn hh hr | exact Lx.kind_name hn hh hr : Lx.kindRun x.data.toList = _)
      have HR := Lib.hid hr
      clear hd hh hn hr hne
      go_enter Try.func55, Try.ntmps55
      go_wp2_with fail
      refine (refDigit_any _ _).mono ?_
      rintro e w' ⟨rfl, rfl⟩
      rw [hd']
      go_wp2_with fail
      refine (refReserved_any _ _).mono ?_
      rintro e w2 ⟨rfl, hb⟩
      rw [HR.out]
      go_wp2_with fail
      go_ret
      exact ⟨ret_int (by rw [HK.out]), hb⟩
  · rw [hh] at hd
    have hd' := hd.symm
    have HH := Lib.hid hh
    clear hd hh hne
    go_enter Try.func55, Try.ntmps55
    go_wp2_with fail
    refine (refDigit_any _ _).mono ?_
    rintro e w' ⟨rfl, rfl⟩
    rw [hd']
    have HD := Lib.hid hd'
    clear hd'
    go_wp2_with fail
    go_loop [3] (fun i => ∃ j : Nat, j ≤ x.size ∧ i = .int .i64 j ∧ Hid (∀ i (hi : i < x.size), i < j → Lx.digI ((x[i]).toNat : Int) = true)) (fun i => x.size - (intOf i).toNat)
    case atStart => exact ⟨0, Nat.zero_le _, rfl, fun i hi h => absurd h (by omega)⟩
    case round =>
      obtain ⟨j, hj, rfl, hg⟩ := hrel
      by_cases hlt : j < x.size
      · by_cases hr : Lx.digI ((x[j]'hlt).toNat : Int) = true
        · have HN : Hid (∀ i (hi : i < x.size), i < j + 1 → Lx.digI ((x[i]).toNat : Int) = true) := fun i hi h => by
            by_cases e : i = j
            · subst e; exact hr
            · exact hg.out i hi (by omega)
          clear hg
          go_wp2_with fail
          refine (refDigit_any _ _).mono ?_
          rintro e w' ⟨rfl, rfl⟩
          rw [hr]
          go_wp2_with fail
          go_round
          case rel => exact ⟨j + 1, by omega, by go_num, HN⟩
          case measure => simp [intOf]; omega
        · have hr' : Lx.digI ((x[j]'hlt).toNat : Int) = false := by simpa using hr
          have HN : Hid (Lx.kindRun x.data.toList = 5) := Lx.kind_dig (Lx.numL_no x j hlt hr') HH.out
          clear hr hg
          go_wp2_with fail
          refine (refDigit_any _ _).mono ?_
          rintro e w' ⟨rfl, rfl⟩
          rw [hr']
          go_wp2_with fail
          go_ret
          exact ⟨ret_int (by rw [HN.out]), Below.refl _ _⟩
      · have hje : j = x.size := by omega
        have hn : Lx.numL x.data.toList = decide (x.size ≤ 18) := Lx.numL_yes x (fun i hi => hg.out i hi (by omega))
        subst hje
        clear hg
        by_cases h18 : x.size ≤ 18
        · have HN : Hid (Lx.kindRun x.data.toList = 3) := Lx.kind_num (by rw [hn]; exact decide_eq_true h18)
          clear hn
          go_wp2
          go_ret
          exact ⟨ret_int (by rw [HN.out]), Below.refl _ _⟩
        · have HN : Hid (Lx.kindRun x.data.toList = 5) := Lx.kind_dig (by rw [hn]; exact decide_eq_false h18) HH.out
          have h18' : 18 < x.size := by omega
          clear hn h18
          go_wp2
          go_ret
          exact ⟨ret_int (by rw [HN.out]), Below.refl _ _⟩

theorem mark_y {c k : Int} (h : (c == k) = true) (hk : Lx.markI k = true) : Lx.markI c = true := by rw [beq_iff_eq.1 h]; exact hk
theorem mark_n {c : Int} (h1 : (c == 40) = false) (h2 : (c == 41) = false) (h3 : (c == 123) = false) (h4 : (c == 125) = false) (h5 : (c == 60) = false) (h6 : (c == 62) = false) (h7 : (c == 44) = false) (h8 : (c == 59) = false) (h9 : (c == 58) = false)
    (h10 : (c == 46) = false) (h11 : (c == 61) = false) (h12 : (c == 43) = false) (h13 : (c == 45) = false) (h14 : (c == 42) = false) (h15 : (c == 47) = false) (h16 : (c == 37) = false) (h17 : (c == 33) = false) : Lx.markI c = false := by
  simp [Lx.markI] at *
  simp [*]
theorem markLen_one {m : Nat} {c : Int} (hm : m = if Lx.markI c then 1 else 0) (h : Lx.markI c = true) : (1 : Int) = (m : Nat) := by rw [hm, h]; rfl
theorem markLen_none {m : Nat} {c : Int} (hm : m = if Lx.markI c then 1 else 0) (h : Lx.markI c = false) : (0 : Int) = (m : Nat) := by rw [hm, h]; rfl

set_option maxHeartbeats 2000000 in
theorem refMark_any (x : ByteArray) (k : Nat) (w : World) (hs : x.size ≤ 1000000) (h0 : k < x.size) :
    Calls Try.prog 56 #[.string x, .int .i64 (k : Nat)] w fun e w' => e = .returned (.int .i64 (Lx.markLen (x.data.toList.drop k) : Nat)) ∧ w' = w := by
  have hm := Lx.markLen_cons x k h0
  have hl : x.data.toList.length = x.size := by simp
  have tail : ∀ (ht : Lx.twoM ((x.data.toList.drop k).take 2) = false), Lx.markLen (x.data.toList.drop k) = if Lx.markI ((x[k]'h0).toNat : Int) then 1 else 0 := by
    intro ht
    rw [hm, ht]; rfl
  by_cases h1 : k + 1 < x.size
  · have hd : (x.extract k (k + 2)).toList = (x.data.toList.drop k).take 2 := by rw [toList_d, Lx.data_extract, Nat.add_sub_cancel_left]
    cases ht : Lx.twoM ((x.data.toList.drop k).take 2)
    · have HM := Lib.hid (tail ht)
      rw [← hd] at ht
      unfold Lx.twoM at ht
      have ht' := of_decide_eq_false ht
      simp only [not_or] at ht'
      obtain ⟨t1, t2, t3, t4⟩ := ht'
      replace t1 := beq_eq_false_iff_ne.2 t1
      replace t2 := beq_eq_false_iff_ne.2 t2
      replace t3 := beq_eq_false_iff_ne.2 t3
      replace t4 := beq_eq_false_iff_ne.2 t4
      clear ht tail hm hd hl
      go_enter Try.func56, Try.ntmps56
      go_wp2
      all_goals go_ret
      all_goals refine ⟨ret_int ?_, rfl⟩
      all_goals first | exact markLen_none HM.out (mark_n (by assumption) (by assumption) (by assumption) (by assumption) (by assumption) (by assumption) (by assumption) (by assumption) (by assumption) (by assumption) (by assumption) (by assumption) (by assumption) (by assumption) (by assumption) (by assumption) (by assumption)) | exact markLen_one HM.out (mark_y (by assumption) rfl)
    · rw [ht] at hm
      have HM := Lib.hid hm
      have hc : (x.data.toList.drop k).take 2 = [38, 38] ∨ (x.data.toList.drop k).take 2 = [124, 124] ∨ (x.data.toList.drop k).take 2 = [61, 61] ∨ (x.data.toList.drop k).take 2 = [45, 62] := by unfold Lx.twoM at ht; exact of_decide_eq_true ht
      rw [← hd] at hc
      clear hm ht tail hd hl
      rcases hc with hc | hc | hc | hc
      all_goals
        go_enter Try.func56, Try.ntmps56
        go_wp2
        go_ret
        exact ⟨ret_int (by rw [HM.out]; rfl), rfl⟩
  · have ht : Lx.twoM ((x.data.toList.drop k).take 2) = false := Lx.twoM_short (by rw [List.length_take, List.length_drop]; omega)
    have HM := Lib.hid (tail ht)
    have h1' : (x.size : Int) ≤ (k : Int) + 1 := by omega
    clear ht tail hm hl h1
    go_enter Try.func56, Try.ntmps56
    go_wp2
    all_goals go_ret
    all_goals refine ⟨ret_int ?_, rfl⟩
    all_goals first | exact markLen_none HM.out (mark_n (by assumption) (by assumption) (by assumption) (by assumption) (by assumption) (by assumption) (by assumption) (by assumption) (by assumption) (by assumption) (by assumption) (by assumption) (by assumption) (by assumption) (by assumption) (by assumption) (by assumption)) | exact markLen_one HM.out (mark_y (by assumption) rfl)

/-- what holds at each round of the reference -/
structure RGoing (s : ByteArray) (w0 : World) (B k : Nat) (out : Value) (D : List Lx.Tok) (wr : World) : Prop where
  own : OwnL tokEnc 58 wr B out D
  bel : Below B w0 wr
  siz : B ≤ wr.heap.size
  scan : ∀ T, Lx.Scan (s.data.toList.drop k) k T → Lx.Scan s.data.toList 0 (D ++ T)
  len : D.length ≤ k
theorem RGoing.blank {s : ByteArray} {w0 : World} {B k : Nat} {out : Value} {D : List Lx.Tok} {wr : World} (h : RGoing s w0 B k out D wr) (hk : k < s.size) (hb : Lx.blankI ((s[k]'hk).toNat : Int) = true) : RGoing s w0 B (k + 1) out D wr :=
  ⟨h.own, h.bel, h.siz, fun T hT => h.scan T (by rw [Lx.drop_cons s k hk]; exact .blank _ _ _ _ hb hT), by have := h.len; omega⟩
theorem RGoing.comm {s : ByteArray} {w0 : World} {B k : Nat} {out : Value} {D : List Lx.Tok} {wr : World} (h : RGoing s w0 B k out D wr) (hk : k < s.size) (hb : Lx.blankI ((s[k]'hk).toNat : Int) = false) (hc : Lx.comment (s.data.toList.drop k) = true) : RGoing s w0 B (k + Lx.lineLen (s.data.toList.drop k)) out D wr :=
  ⟨h.own, h.bel, h.siz, fun T hT => h.scan T (by
    have e := Lx.drop_cons s k hk
    rw [e] at hc ⊢
    refine .comm _ _ _ _ hb hc ?_
    rw [← e, List.drop_drop]
    exact hT), by have := h.len; omega⟩
theorem RGoing.tok {s : ByteArray} {w0 : World} {B k : Nat} {out : Value} {D : List Lx.Tok} {wr : World} (h : RGoing s w0 B k out D wr) (hk : k < s.size) (hb : Lx.blankI ((s[k]'hk).toNat : Int) = false) (hc : Lx.comment (s.data.toList.drop k) = false)
    {out2 : Value} {w2 : World} {n : Nat} (hn : Lx.tokLen (s.data.toList.drop k) = n) (hown : OwnL tokEnc 58 w2 B out2 (D ++ [Lx.tokOf (s.data.toList.drop k) k])) (hbel : Below B wr w2) : RGoing s w0 B (k + n) out2 (D ++ [Lx.tokOf (s.data.toList.drop k) k]) w2 := by
  have hp := Lx.tokLen_pos (s.data.toList.drop k)
  refine ⟨hown, h.bel.trans hbel, Nat.le_trans h.siz hbel.size, fun T hT => ?_, by have := h.len; simp; omega⟩
  rw [List.append_assoc]
  refine h.scan _ ?_
  have e := Lx.drop_cons s k hk
  rw [← hn] at hT
  rw [e] at hc hT ⊢
  refine .tok _ _ _ _ hb hc ?_
  rw [← e] at hT ⊢
  rw [List.drop_drop]
  exact hT
end Go.Proofs.Ytflcpcefjliijaa
