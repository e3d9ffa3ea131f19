/-
  CONTRACTS: the reference's tokens.
-/
import Derived.Test.YtgcaeimlmkkeoaaGreatZL3
import Derived.LoopTactic
import Derived.Outline
import Derived.Test.YtgcaeimlmkkeoaaGreatZA13
set_option linter.unusedVariables false
namespace Go.Proofs.YtgcaeimlmkkeoaaGreat
open Go.RowKit
set_option maxHeartbeats 1000000 in
theorem refKind_any (x : ByteArray) (w : World) (hs : x.size ≤ 1000000) (h0 : 0 < x.size) :
  Calls Tryz.prog 52 #[.string x] w fun e w' => e = .returned (.int .i64 (Lx.kindRun x.data.toList)) ∧ Below w.heap.size w w' := by
 have hd := Lx.headDig_eq x h0
 have hne : x.data.toList ≠ [] := by intro e; have : x.data.toList.length = x.size := by simp
                                     rw [e] at this; simp at this; omega
 cases hh : Lx.headDig x.data.toList
 ·have hn : Lx.numL x.data.toList = false := by
   cases hn : Lx.numL x.data.toList
   ·rfl
   ·rw [Lx.num_head hn hne] at hh; cases hh
  rw [hh] at hd
  have hd' := hd.symm
  cases hr : Lx.resL x.data.toList
  all_goals
   have HK := Lib.hid (by first | exact Lx.kind_word hn hh hr | exact Lx.kind_name hn hh hr : Lx.kindRun x.data.toList = _)
   have HR := Lib.hid hr
   clear hd hh hn hr hne
   go_enter Tryz.func52, Tryz.ntmps52
   go_wp2_with fail
   refine (refDigit_any _ _).mono ?_
   rintro e w' ⟨rfl, rfl⟩
   rw [hd']
   go_wp2_with fail
   refine (refReserved_any _ _).mono ?_
   rintro e w2 ⟨rfl, hb⟩
   rw [HR.out]
   go_wp2_with fail
   go_ret
   exact ⟨ret_int (by rw [HK.out]), hb⟩
 ·rw [hh] at hd
  have hd' := hd.symm
  have HH := Lib.hid hh
  clear hd hh hne
  go_enter Tryz.func52, Tryz.ntmps52
  go_wp2_with fail
  refine (refDigit_any _ _).mono ?_
  rintro e w' ⟨rfl, rfl⟩
  rw [hd']
  have HD := Lib.hid hd'
  clear hd'
  go_wp2_with fail
  go_loop [3] (fun i => ∃ j : Nat, j ≤ x.size ∧ i = .int .i64 j ∧ Hid (∀ i (hi : i < x.size), i < j → Lx.digI ((x[i]).toNat : Int) = true)) (fun i => x.size - (intOf i).toNat)
  case atStart => exact ⟨0, Nat.zero_le _, rfl, fun i hi h => absurd h (by omega)⟩
  case round =>
   obtain ⟨j, hj, rfl, hg⟩ := hrel
   by_cases hlt : j < x.size
   ·by_cases hr : Lx.digI ((x[j]'hlt).toNat : Int) = true
    ·have HN : Hid (∀ i (hi : i < x.size), i < j + 1 → Lx.digI ((x[i]).toNat : Int) = true) := fun i hi h => by
      by_cases e : i = j
      ·subst e; exact hr
      ·exact hg.out i hi (by omega)
     clear hg
     go_wp2_with fail
     refine (refDigit_any _ _).mono ?_
     rintro e w' ⟨rfl, rfl⟩
     rw [hr]
     go_wp2_with fail
     go_round
     case rel => exact ⟨j + 1, by omega, by go_num, HN⟩
     case measure => simp [intOf]; omega
    ·have hr' : Lx.digI ((x[j]'hlt).toNat : Int) = false := by simpa using hr
     have HN : Hid (Lx.kindRun x.data.toList = 5) := Lx.kind_dig (Lx.numL_no x j hlt hr') HH.out
     clear hr hg
     go_wp2_with fail
     refine (refDigit_any _ _).mono ?_
     rintro e w' ⟨rfl, rfl⟩
     rw [hr']
     go_wp2_with fail
     go_ret
     exact ⟨ret_int (by rw [HN.out]), Below.refl _ _⟩
   ·have hje : j = x.size := by omega
    have hn : Lx.numL x.data.toList = decide (x.size ≤ 18) := Lx.numL_yes x (fun i hi => hg.out i hi (by omega))
    subst hje
    clear hg
    by_cases h18 : x.size ≤ 18
    ·have HN : Hid (Lx.kindRun x.data.toList = 3) := Lx.kind_num (by rw [hn]; exact decide_eq_true h18)
     clear hn
     go_wp2
     go_ret
     exact ⟨ret_int (by rw [HN.out]), Below.refl _ _⟩
    ·have HN : Hid (Lx.kindRun x.data.toList = 5) := Lx.kind_dig (by rw [hn]; exact decide_eq_false h18) HH.out
     have h18' : 18 < x.size := by omega
     clear hn h18
     go_wp2
     go_ret
     exact ⟨ret_int (by rw [HN.out]), Below.refl _ _⟩
theorem mark_y {c k : Int} (h : (c == k) = true) (hk : Lx.markI k = true) : Lx.markI c = true := by rw [beq_iff_eq.1 h]; exact hk
theorem mark_n {c : Int} (h1 : (c == 40) = false) (h2 : (c == 41) = false) (h3 : (c == 123) = false) (h4 : (c == 125) = false) (h5 : (c == 60) = false) (h6 : (c == 62) = false) (h7 : (c == 44) = false) (h8 : (c == 59) = false) (h9 : (c == 58) = false)
  (h10 : (c == 46) = false) (h11 : (c == 61) = false) (h12 : (c == 43) = false) (h13 : (c == 45) = false) (h14 : (c == 42) = false) (h15 : (c == 47) = false) (h16 : (c == 37) = false) (h17 : (c == 33) = false) : Lx.markI c = false := by
 simp [Lx.markI] at *
 simp [*]
theorem markLen_one {m : Nat} {c : Int} (hm : m = if Lx.markI c then 1 else 0) (h : Lx.markI c = true) : (1 : Int) = (m : Nat) := by rw [hm, h]; rfl
theorem markLen_none {m : Nat} {c : Int} (hm : m = if Lx.markI c then 1 else 0) (h : Lx.markI c = false) : (0 : Int) = (m : Nat) := by rw [hm, h]; rfl
set_option maxHeartbeats 2000000 in
theorem refMark_any (x : ByteArray) (k : Nat) (w : World) (hs : x.size ≤ 1000000) (h0 : k < x.size) :
  Calls Tryz.prog 53 #[.string x, .int .i64 (k : Nat)] w fun e w' => e = .returned (.int .i64 (Lx.markLen (x.data.toList.drop k) : Nat)) ∧ w' = w := by
 have hm := Lx.markLen_cons x k h0
 have hl : x.data.toList.length = x.size := by simp
 have tail : ∀ (ht : Lx.twoM ((x.data.toList.drop k).take 2) = false), Lx.markLen (x.data.toList.drop k) = if Lx.markI ((x[k]'h0).toNat : Int) then 1 else 0 := by
  intro ht
  rw [hm, ht]; rfl
 by_cases h1 : k + 1 < x.size
 ·have hd : (x.extract k (k + 2)).toList = (x.data.toList.drop k).take 2 := by rw [toList_d, Lx.data_extract, Nat.add_sub_cancel_left]
  cases ht : Lx.twoM ((x.data.toList.drop k).take 2)
  ·have HM := Lib.hid (tail ht)
   rw [← hd] at ht
   unfold Lx.twoM at ht
   have ht' := of_decide_eq_false ht
   simp only [not_or] at ht'
   obtain ⟨t1, t2, t3, t4⟩ := ht'
   replace t1 := beq_eq_false_iff_ne.2 t1
   replace t2 := beq_eq_false_iff_ne.2 t2
   replace t3 := beq_eq_false_iff_ne.2 t3
   replace t4 := beq_eq_false_iff_ne.2 t4
   clear ht tail hm hd hl
   go_enter Tryz.func53, Tryz.ntmps53
   go_wp2
   all_goals go_ret
   all_goals refine ⟨ret_int ?_, rfl⟩
   all_goals first | exact markLen_none HM.out (mark_n (by assumption) (by assumption) (by assumption) (by assumption) (by assumption) (by assumption) (by assumption) (by assumption) (by assumption) (by assumption) (by assumption) (by assumption) (by assumption) (by assumption) (by assumption) (by assumption) (by assumption)) | exact markLen_one HM.out (mark_y (by assumption) rfl)
  ·rw [ht] at hm
   have HM := Lib.hid hm
   have hc : (x.data.toList.drop k).take 2 = [38, 38] ∨ (x.data.toList.drop k).take 2 = [124, 124] ∨ (x.data.toList.drop k).take 2 = [61, 61] ∨ (x.data.toList.drop k).take 2 = [45, 62] := by unfold Lx.twoM at ht; exact of_decide_eq_true ht
   rw [← hd] at hc
   clear hm ht tail hd hl
   rcases hc with hc | hc | hc | hc
   all_goals
    go_enter Tryz.func53, Tryz.ntmps53
    go_wp2
    go_ret
    exact ⟨ret_int (by rw [HM.out]; rfl), rfl⟩
 ·have ht : Lx.twoM ((x.data.toList.drop k).take 2) = false := Lx.twoM_short (by rw [List.length_take, List.length_drop]; omega)
  have HM := Lib.hid (tail ht)
  have h1' : (x.size : Int) ≤ (k : Int) + 1 := by omega
  clear ht tail hm hl h1
  go_enter Tryz.func53, Tryz.ntmps53
  go_wp2
  all_goals go_ret
  all_goals refine ⟨ret_int ?_, rfl⟩
  all_goals first | exact markLen_none HM.out (mark_n (by assumption) (by assumption) (by assumption) (by assumption) (by assumption) (by assumption) (by assumption) (by assumption) (by assumption) (by assumption) (by assumption) (by assumption) (by assumption) (by assumption) (by assumption) (by assumption) (by assumption)) | exact markLen_one HM.out (mark_y (by assumption) rfl)
/-- what holds at each round of the reference -/
structure RGoing (s : ByteArray) (w0 : World) (B k : Nat) (out : Value) (D : List Lx.Tok) (wr : World) : Prop where
 own : OwnL tokEnc 62 wr B out D
 bel : Below B w0 wr
 siz : B ≤ wr.heap.size
 scan : ∀ T, Lx.Scan (s.data.toList.drop k) k T → Lx.Scan s.data.toList 0 (D ++ T)
 len : D.length ≤ k
theorem RGoing.blank {s : ByteArray} {w0 : World} {B k : Nat} {out : Value} {D : List Lx.Tok} {wr : World} (h : RGoing s w0 B k out D wr) (hk : k < s.size) (hb : Lx.blankI ((s[k]'hk).toNat : Int) = true) : RGoing s w0 B (k + 1) out D wr :=
 ⟨h.own, h.bel, h.siz, fun T hT => h.scan T (by rw [Lx.drop_cons s k hk]; exact .blank _ _ _ _ hb hT), by have := h.len; omega⟩
theorem RGoing.comm {s : ByteArray} {w0 : World} {B k : Nat} {out : Value} {D : List Lx.Tok} {wr : World} (h : RGoing s w0 B k out D wr) (hk : k < s.size) (hb : Lx.blankI ((s[k]'hk).toNat : Int) = false) (hc : Lx.comment (s.data.toList.drop k) = true) : RGoing s w0 B (k + Lx.lineLen (s.data.toList.drop k)) out D wr :=
 ⟨h.own, h.bel, h.siz, fun T hT => h.scan T (by
  have e := Lx.drop_cons s k hk
  rw [e] at hc ⊢
  refine .comm _ _ _ _ hb hc ?_
  rw [← e, List.drop_drop]
  exact hT), by have := h.len; omega⟩
theorem RGoing.tok {s : ByteArray} {w0 : World} {B k : Nat} {out : Value} {D : List Lx.Tok} {wr : World} (h : RGoing s w0 B k out D wr) (hk : k < s.size) (hb : Lx.blankI ((s[k]'hk).toNat : Int) = false) (hc : Lx.comment (s.data.toList.drop k) = false)
  {out2 : Value} {w2 : World} {n : Nat} (hn : Lx.tokLen (s.data.toList.drop k) = n) (hown : OwnL tokEnc 62 w2 B out2 (D ++ [Lx.tokOf (s.data.toList.drop k) k])) (hbel : Below B wr w2) : RGoing s w0 B (k + n) out2 (D ++ [Lx.tokOf (s.data.toList.drop k) k]) w2 := by
 have hp := Lx.tokLen_pos (s.data.toList.drop k)
 refine ⟨hown, h.bel.trans hbel, Nat.le_trans h.siz hbel.size, fun T hT => ?_, by have := h.len; simp; omega⟩
 rw [List.append_assoc]
 refine h.scan _ ?_
 have e := Lx.drop_cons s k hk
 rw [← hn] at hT
 rw [e] at hc hT ⊢
 refine .tok _ _ _ _ hb hc ?_
 rw [← e] at hT ⊢
 rw [List.drop_drop]
 exact hT
end Go.Proofs.YtgcaeimlmkkeoaaGreat
namespace Go.Proofs.YtgcaeimlmkkeoaaGreat
open Go.RowKit
theorem comm_yes {s : ByteArray} {k : Nat} (hk : k < s.size) (h : Lx.comment (s.data.toList.drop k) = true) : (((s[k]'hk).toNat : Int) == 47) = true ∧ ∃ h1 : k + 1 < s.size, (((s[k + 1]'h1).toNat : Int) == 47) = true := by
 rw [Lx.drop_cons s k hk] at h
 by_cases h1 : k + 1 < s.size
 ·rw [Lx.drop_cons s (k + 1) h1] at h
  have := of_decide_eq_true h
  exact ⟨beq_iff_eq.2 this.1, h1, beq_iff_eq.2 this.2⟩
 ·rw [List.drop_of_length_le (by simp; omega)] at h
  simp [Lx.comment] at h
theorem comm_no {s : ByteArray} {k : Nat} (hk : k < s.size) (h : Lx.comment (s.data.toList.drop k) = false) : (((s[k]'hk).toNat : Int) == 47) = false ∨ ((((s[k]'hk).toNat : Int) == 47) = true ∧ s.size ≤ k + 1) ∨ ((((s[k]'hk).toNat : Int) == 47) = true ∧ ∃ h1 : k + 1 < s.size, (((s[k + 1]'h1).toNat : Int) == 47) = false) := by
 cases hc : (((s[k]'hk).toNat : Int) == 47)
 ·exact .inl rfl
 ·right
  by_cases h1 : k + 1 < s.size
  ·right
   refine ⟨rfl, h1, ?_⟩
   rw [Lx.drop_cons s k hk, Lx.drop_cons s (k + 1) h1] at h
   have := of_decide_eq_false h
   rw [beq_eq_false_iff_ne]
   exact fun e => this ⟨beq_iff_eq.1 hc, e⟩
  ·left; exact ⟨rfl, by omega⟩
theorem blank_no {c : Int} (h : Lx.blankI c = false) : (c == 32) = false ∧ (c == 9) = false ∧ (c == 10) = false ∧ (c == 13) = false := by
 have := of_decide_eq_false h
 simp only [not_or] at this
 exact ⟨beq_eq_false_iff_ne.2 this.1, beq_eq_false_iff_ne.2 this.2.1, beq_eq_false_iff_ne.2 this.2.2.1, beq_eq_false_iff_ne.2 this.2.2.2⟩
theorem blank_yes {c : Int} (h : Lx.blankI c = true) : (c == 32) = true ∨ ((c == 32) = false ∧ (c == 9) = true) ∨ ((c == 32) = false ∧ (c == 9) = false ∧ (c == 10) = true) ∨ ((c == 32) = false ∧ (c == 9) = false ∧ (c == 10) = false ∧ (c == 13) = true) := by
 rcases of_decide_eq_true h with rfl | rfl | rfl | rfl <;> simp
theorem line_at {s : ByteArray} {k j : Nat} (hk : k ≤ j) (hj : j ≤ s.size) (h : ∀ i (hi : i < s.size), k ≤ i → i < j → (((s[i]).toNat : Int) == 10) = false) (hs : j = s.size ∨ ∃ hj : j < s.size, (((s[j]).toNat : Int) == 10) = true) : k + Lx.lineLen (s.data.toList.drop k) = j := by
 have : Lx.lineLen (s.data.toList.drop k) = j - k := by
  refine Lx.takeWhile_len (by rw [List.length_drop]; simp; omega) (fun i hi hij => ?_) ?_
  ·rw [List.length_drop] at hi
   simp at hi
   have := h (k + i) (by omega) (by omega) (by omega)
   rw [List.getElem_drop]
   unfold Lx.notLf
   show (!(((s[k + i]'(by omega)).toNat : Int) == 10)) = true
   rw [this]; rfl
  ·rcases hs with hs | ⟨hj', hs⟩
   ·left; rw [List.length_drop]; simp; omega
   ·right
    refine ⟨by rw [List.length_drop]; simp; omega, ?_⟩
    rw [List.getElem_drop]
    unfold Lx.notLf
    have e : k + (j - k) = j := by omega
    show (!(((s.data.toList[k + (j - k)]'(by simp; omega)).toNat : Int) == 10)) = false
    have e2 : s.data.toList[k + (j - k)]'(by simp; omega) = s[j]'hj' := by simp only [e]; rfl
    rw [e2, hs]; rfl
 omega
theorem run_at {s : ByteArray} {k j : Nat} (hk : k ≤ j) (hj : j ≤ s.size) (h : ∀ i (hi : i < s.size), k ≤ i → i < j → Lx.runI ((s[i]).toNat : Int) = true) (hs : j = s.size ∨ ∃ hj : j < s.size, Lx.runI ((s[j]).toNat : Int) = false) : k + Lx.runLen (s.data.toList.drop k) = j := by
 have : Lx.runLen (s.data.toList.drop k) = j - k := by
  refine Lx.takeWhile_len (by rw [List.length_drop]; simp; omega) (fun i hi hij => ?_) ?_
  ·rw [List.length_drop] at hi
   simp at hi
   have := h (k + i) (by omega) (by omega) (by omega)
   rw [List.getElem_drop]
   exact this
  ·rcases hs with hs | ⟨hj', hs⟩
   ·left; rw [List.length_drop]; simp; omega
   ·right
    refine ⟨by rw [List.length_drop]; simp; omega, ?_⟩
    rw [List.getElem_drop]
    have e : k + (j - k) = j := by omega
    show Lx.runI ((s.data.toList[k + (j - k)]'(by simp; omega)).toNat : Int) = false
    have e2 : s.data.toList[k + (j - k)]'(by simp; omega) = s[j]'hj' := by simp only [e]; rfl
    rw [e2]; exact hs
 omega
theorem run_head {s : ByteArray} {k : Nat} (hk : k < s.size) (h : Lx.runI ((s[k]'hk).toNat : Int) = false) : Lx.runLen (s.data.toList.drop k) = 0 := by
 have := run_at (s := s) (k := k) (j := k) (Nat.le_refl _) (by omega) (fun i hi h1 h2 => by omega) (.inr ⟨hk, h⟩)
 omega
theorem OwnL.drew {α : Type} {E : Enc α} {t : TypeId} {w : World} {base : Nat} {v : Value} {L : List α} (h : OwnL E t w base v L) : OwnL E t w.drew base v L := h
theorem below_d {B : Nat} (w : World) : Below B w w.drew := (Below.refl _ _).drew
theorem cells_tok {w : World} {b : Nat} {t : Lx.Tok} (g0 : w.cell? ⟨b, 0, none⟩ = some (.int .i64 t.kind)) (g1 : w.cell? ⟨b, 1, none⟩ = some (.string t.text)) (g2 : w.cell? ⟨b, 2, none⟩ = some (.int .i64 t.at_)) : CellsAt w b 0 (tokEnc.all [t]) := by
 obtain ⟨b', off, e, h⟩ := lies_tok g0 g1 g2 (by simp)
 simp only [Option.some.injEq, Addr.mk.injEq] at e
 obtain ⟨rfl, rfl, _⟩ := e
 exact h
set_option maxHeartbeats 4000000 in
set_option maxRecDepth 1000000 in
theorem refTokens_any (s : ByteArray) (w : World) (hs : s.size ≤ 4611686018427387904) :
  Calls Tryz.prog 32 #[.string s] w (TokPost s w) := by
 by_cases hbig : 20000 < s.size
 ·have hz : tokList s = [] := by unfold tokList; rw [if_neg (by omega)]
  have HZ := Lib.hid hz
  clear hz
  go_enter Tryz.func32, Tryz.ntmps32
  go_wp2_with fail
  go_ret
  exact ⟨_, rfl, by rw [HZ.out]; exact SlIs.isNil _ _, Below.refl _ _⟩
 ·have hz : tokList s = Lx.toks s := by unfold tokList; rw [if_pos (by omega)]
  have hs1 : s.size ≤ 20000 := by omega
  have hl : s.data.toList.length = s.size := by simp
  have HZ := Lib.hid hz
  have HL := Lib.hid hl
  clear hz hl hbig
  go_enter Tryz.func32, Tryz.ntmps32
  go_wp2_with fail
  go_loopw [3, 4, 5, 6, 7, 8] (fun out at_ _ _ _ _ wr => ∃ (k : Nat) (D : List Lx.Tok), k ≤ s.size ∧ at_ = .int .i64 (k : Nat) ∧ Hid (RGoing s w w.heap.size k out D wr)) (fun _ at_ _ _ _ _ _ => s.size - (intOf at_).toNat)
  case atStart => exact ⟨0, [], Nat.zero_le _, rfl, OwnL.isNil _ _ _ _, Below.refl _ _, Nat.le_refl _, fun T h => by simpa using h, by simp⟩
  case round =>
   obtain ⟨k, D, hk, rfl, hgo⟩ := hrel
   obtain ⟨wo, rfl⟩ : ∃ wo : World, wo = wr := ⟨_, rfl⟩
   by_cases hlt : k < s.size
   ·by_cases hb : Lx.blankI ((s[k]'hlt).toNat : Int) = true
    ·have HG := Lib.hid (hgo.out.blank hlt hb)
     rcases blank_yes hb with h1 | ⟨h1, h2⟩ | ⟨h1, h2, h3⟩ | ⟨h1, h2, h3, h4⟩
     all_goals
      clear hb hgo
      go_wp2_with fail
      go_roundw
      case rel => exact ⟨k + 1, D, by omega, by go_num, HG⟩
      case measure => simp [intOf]; omega
    ·have hb' : Lx.blankI ((s[k]'hlt).toNat : Int) = false := by simpa using hb
     have HB := Lib.hid hb'
     obtain ⟨b1, b2, b3, b4⟩ := blank_no hb'
     clear hb hb'
     cases hc : Lx.comment (s.data.toList.drop k)
     ·by_cases hr : Lx.runI ((s[k]'hlt).toNat : Int) = true
      ·-- a run
       have HC := Lib.hid hc
       have hcc := comm_no hlt hc
       have hne : (((s[k]'hlt).toNat : Int) == 47) = false := by
        rw [beq_eq_false_iff_ne]
        intro e
        rw [e] at hr
        simp [Lx.runI, Lx.ltrI, Lx.digI] at hr
       have hlen := hgo.out.len
       have R := toks_room (n := D.length) (m := 1) (by omega) (by omega)
       have R1 := Lib.hid R.1
       have R2 := Lib.hid R.2
       clear hcc hc R
       go_wp2_with fail
       refine (refIn_any _ _).mono ?_
       rintro e w1 ⟨rfl, rfl⟩
       rw [hr]
       go_wp2_with fail
       have HR := Lib.hid hr
       clear hr hne
       go_loop [6] (fun end_ => ∃ j : Nat, k ≤ j ∧ j ≤ s.size ∧ end_ = .int .i64 (j : Nat) ∧ Hid (∀ i (hi : i < s.size), k ≤ i → i < j → Lx.runI ((s[i]).toNat : Int) = true)) (fun end_ => s.size - (intOf end_).toNat)
       case atStart => exact ⟨k, Nat.le_refl _, hk, rfl, fun i hi h1 h2 => absurd h2 (by omega)⟩
       case round =>
        obtain ⟨j, hkj, hj, rfl, hg⟩ := hrel
        by_cases hjr : ∃ hjl : j < s.size, Lx.runI ((s[j]'hjl).toNat : Int) = true
        ·obtain ⟨hjl, hjr⟩ := hjr
         have HN : Hid (∀ i (hi : i < s.size), k ≤ i → i < j + 1 → Lx.runI ((s[i]).toNat : Int) = true) := fun i hi h1 h2 => by
          by_cases e : i = j
          ·subst e; exact hjr
          ·exact hg.out i hi h1 (by omega)
         clear hg
         go_wp2_with fail
         refine (refIn_any _ _).mono ?_
         rintro e w1 ⟨rfl, rfl⟩
         rw [hjr]
         go_wp2_with fail
         go_round
         case rel => exact ⟨j + 1, by omega, by omega, by go_num, HN⟩
         case measure => simp [intOf]; omega
        ·have hst : j = s.size ∨ ∃ hjl : j < s.size, Lx.runI ((s[j]'hjl).toNat : Int) = false := by
          by_cases hjl : j < s.size
          ·exact .inr ⟨hjl, by cases hv : Lx.runI ((s[j]'hjl).toNat : Int)
                               · rfl
                               · exact absurd ⟨hjl, hv⟩ hjr⟩
          ·exact .inl (by omega)
         have e := run_at hkj hj hg.out hst
         have hjk : k < j := by
          by_cases hjk : k < j
          ·exact hjk
          ·have ejk : j = k := by omega
           subst ejk
           rcases hst with h | ⟨h, h2⟩
           ·omega
           ·rw [HR.out] at h2; cases h2
         have hpos : 0 < Lx.runLen (s.data.toList.drop k) := by omega
         obtain ⟨e1, e2⟩ := Lx.tok_run hpos
         have en : Lx.tokLen (s.data.toList.drop k) = j - k := by omega
         have ht2 : s.extract k j = (Lx.tokOf (s.data.toList.drop k) k).text := by rw [Lx.mk_extract]; unfold Lx.tokOf; rw [en]
         have htk : (Lx.tokOf (s.data.toList.drop k) k).kind = Lx.kindRun ((s.extract k j).data.toList) := by rw [Lx.data_extract, show j - k = Lx.runLen (s.data.toList.drop k) by omega]; exact e2
         have hz : (s.extract k j).size = j - k := by rw [ByteArray.size_extract]; omega
         have HT2 := Lib.hid ht2
         have HTK := Lib.hid htk
         have HZ2 := Lib.hid hz
         have EN := Lib.hid en
         clear hjr hg e hpos e1 e2 en ht2 htk hz
         have hkji : (k : Int) ≤ (j : Int) := by omega
         rcases hst with h | ⟨h, h2⟩
         ·subst h
          go_wp2_with fail
          go_region_law (first | (go_simp; go_at_call 52; refine (refKind_any _ _ (by rw [HZ2.out]; omega) (by rw [HZ2.out]; omega)).mono ?_; rintro e w3 ⟨rfl, hb3⟩; go_simp) | (refine step_appendL (E := tokEnc) (o := ⟨some 114, _, _, _, _, _⟩) Tryz.underlying59 infoTok rfl rfl (.tmp 101) (.tmp 113) rfl w.heap.size _ D rfl ((hgo.out.own.drew.below hb3).alloc _) _ 0 1 1 [Lx.tokOf (s.data.toList.drop k) k] rfl rfl (cells_tok (by rw [HTK.out]; simp [go_sem]) (by rw [← HT2.out]; simp [go_sem]) (by simp [go_sem, Lx.tokOf])) R1.out R2.out (by have h1 := hgo.out.siz; have h2 := hb3.size; simp at h2 ⊢; omega) ?_; intro out2 w2 hown2 hb2))
          have hbel : Below w.heap.size w1 w2 := (((below_d w1).trans (hb3.mono (by have h1 := hgo.out.siz; simp; omega))).alloc (by have h1 := hgo.out.siz; have h2 := hb3.size; simp at h2; omega) _).trans hb2
          have HG := Lib.hid (hgo.out.tok hlt HB.out HC.out EN.out hown2 hbel)
          clear hb2 hown2 hbel
          go_wp2_with fail
          go_roundw
          case rel => exact ⟨s.size, _, by omega, by go_num, by have := HG.out; rwa [show k + (s.size - k) = s.size by omega] at this⟩
          case measure => simp [intOf]; omega
         ·go_wp2_with fail
          refine (refIn_any _ _).mono ?_
          rintro e w1 ⟨rfl, rfl⟩
          rw [h2]
          clear h2
          go_wp2_with fail
          go_region_law (first | (go_simp; go_at_call 52; refine (refKind_any _ _ (by rw [HZ2.out]; omega) (by rw [HZ2.out]; omega)).mono ?_; rintro e w3 ⟨rfl, hb3⟩; go_simp) | (refine step_appendL (E := tokEnc) (o := ⟨some 114, _, _, _, _, _⟩) Tryz.underlying59 infoTok rfl rfl (.tmp 101) (.tmp 113) rfl w.heap.size _ D rfl ((hgo.out.own.drew.below hb3).alloc _) _ 0 1 1 [Lx.tokOf (s.data.toList.drop k) k] rfl rfl (cells_tok (by rw [HTK.out]; simp [go_sem]) (by rw [← HT2.out]; simp [go_sem]) (by simp [go_sem, Lx.tokOf])) R1.out R2.out (by have h1 := hgo.out.siz; have h2 := hb3.size; simp at h2 ⊢; omega) ?_; intro out2 w2 hown2 hb2))
          have hbel : Below w.heap.size w1 w2 := (((below_d w1).trans (hb3.mono (by have h1 := hgo.out.siz; simp; omega))).alloc (by have h1 := hgo.out.siz; have h2 := hb3.size; simp at h2; omega) _).trans hb2
          have HG := Lib.hid (hgo.out.tok hlt HB.out HC.out EN.out hown2 hbel)
          clear hb2 hown2 hbel
          go_wp2_with fail
          go_roundw
          case rel => exact ⟨j, _, by omega, by go_num, by have := HG.out; rwa [show k + (j - k) = j by omega] at this⟩
          case measure => simp [intOf]; omega
      ·have hr' : Lx.runI ((s[k]'hlt).toNat : Int) = false := by simpa using hr
       have HR0 := Lib.hid (run_head hlt hr')
       have hcons := Lx.drop_cons s k hlt
       have htl := Lx.tokLen_le (s[k]'hlt) (s.data.toList.drop (k + 1))
       rw [← hcons, List.length_drop, HL.out] at htl
       have HTL := Lib.hid htl
       have HC := Lib.hid hc
       have hcc := comm_no hlt hc
       have hlen := hgo.out.len
       have R := toks_room (n := D.length) (m := 1) (by omega) (by omega)
       have R1 := Lib.hid R.1
       have R2 := Lib.hid R.2
       clear hr hc hcons htl R
       by_cases hm : 0 < Lx.markLen (s.data.toList.drop k)
       ·obtain ⟨e1, e2⟩ := Lx.tok_mark HR0.out hm
        have hmi : (((Lx.markLen (s.data.toList.drop k) : Nat) : Int) == 0) = false := by rw [beq_eq_false_iff_ne]; omega
        rw [← e1] at hmi hm
        have ht2 : s.extract k (k + Lx.tokLen (s.data.toList.drop k)) = (Lx.tokOf (s.data.toList.drop k) k).text := by rw [Lx.mk_extract, Nat.add_sub_cancel_left]; rfl
        have htk : (Lx.tokOf (s.data.toList.drop k) k).kind = 4 := e2
        have HT2 := Lib.hid ht2
        have HTK := Lib.hid htk
        have E1 := Lib.hid e1
        have hle := HTL.out
        clear e1 e2 ht2 htk
        generalize hn : Lx.tokLen (s.data.toList.drop k) = n at *
        have HN := Lib.hid hn
        clear hn
        rcases hcc with c1 | ⟨c1, c2⟩ | ⟨c1, c2, c3⟩
        all_goals
         go_wp2_with fail
         refine (refIn_any _ _).mono ?_
         rintro e w1 ⟨rfl, rfl⟩
         rw [hr']
         go_wp2_with fail
         refine (refMark_any _ _ _ (by omega) hlt).mono ?_
         rintro e w1 ⟨rfl, rfl⟩
         rw [← E1.out]
         go_wp2_with (at_builtin; go_must (refine wpList_appendL (E := tokEnc) (o := ⟨some 35, _, _, _, _, _⟩) Tryz.underlying59 infoTok rfl rfl (.tmp 24) (.tmp 34) rfl w.heap.size _ D rfl (hgo.out.own.alloc _) _ 1 1 [Lx.tokOf (s.data.toList.drop k) k] rfl rfl (lies_tok (by rw [HTK.out]; simp [go_sem]) (by rw [← HT2.out]; simp [go_sem]) (by simp [go_sem, Lx.tokOf])) (fun h => by cases h) R1.out R2.out (by have := hgo.out.siz; simp; omega) ?_; intro out2 w2 hown2 hb2))
         have HG := Lib.hid (hgo.out.tok hlt HB.out HC.out HN.out hown2 (((Below.refl _ _).alloc hgo.out.siz _).trans hb2))
         clear hb2 hown2
         go_wp2_with fail
         go_roundw
         case rel => exact ⟨k + n, _, by omega, by go_num, HG⟩
         case measure => simp [intOf]; omega
       ·have hm0 : Lx.markLen (s.data.toList.drop k) = 0 := by omega
        obtain ⟨e1, e2⟩ := Lx.tok_bad HR0.out hm0
        have ht2 : s.extract k (k + 1) = (Lx.tokOf (s.data.toList.drop k) k).text := by rw [Lx.mk_extract, Nat.add_sub_cancel_left]; unfold Lx.tokOf; rw [e1]
        have htk : (Lx.tokOf (s.data.toList.drop k) k).kind = 5 := e2
        have HT2 := Lib.hid ht2
        have HTK := Lib.hid htk
        have E1 := Lib.hid e1
        have HM0 := Lib.hid hm0
        have hle := HTL.out
        rw [e1] at hle
        clear e1 e2 ht2 htk hm0 hm
        rcases hcc with c1 | ⟨c1, c2⟩ | ⟨c1, c2, c3⟩
        all_goals
         go_wp2_with fail
         refine (refIn_any _ _).mono ?_
         rintro e w1 ⟨rfl, rfl⟩
         rw [hr']
         go_wp2_with fail
         refine (refMark_any _ _ _ (by omega) hlt).mono ?_
         rintro e w1 ⟨rfl, rfl⟩
         rw [HM0.out]
         go_wp2_with (at_builtin; go_must (refine wpList_appendL (E := tokEnc) (o := ⟨some 35, _, _, _, _, _⟩) Tryz.underlying59 infoTok rfl rfl (.tmp 24) (.tmp 34) rfl w.heap.size _ D rfl (hgo.out.own.alloc _) _ 1 1 [Lx.tokOf (s.data.toList.drop k) k] rfl rfl (lies_tok (by rw [HTK.out]; simp [go_sem]) (by rw [← HT2.out]; simp [go_sem]) (by simp [go_sem, Lx.tokOf])) (fun h => by cases h) R1.out R2.out (by have := hgo.out.siz; simp; omega) ?_; intro out2 w2 hown2 hb2))
         have HG := Lib.hid (hgo.out.tok hlt HB.out HC.out E1.out hown2 (((Below.refl _ _).alloc hgo.out.siz _).trans hb2))
         clear hb2 hown2
         go_wp2_with fail
         go_roundw
         case rel => exact ⟨k + 1, _, by omega, by go_num, HG⟩
         case measure => simp [intOf]; omega
     ·-- a comment
      obtain ⟨c1, h1, c2⟩ := comm_yes hlt hc
      have HC := Lib.hid hc
      have hlp := Lx.comm_blank (by rw [HL.out]; exact hlt) hc
      clear hc
      go_wp2_with fail
      go_loop [4] (fun at_ => ∃ j : Nat, k ≤ j ∧ j ≤ s.size ∧ at_ = .int .i64 (j : Nat) ∧ Hid (∀ i (hi : i < s.size), k ≤ i → i < j → (((s[i]).toNat : Int) == 10) = false)) (fun at_ => s.size - (intOf at_).toNat)
      case atStart => exact ⟨k, Nat.le_refl _, hk, rfl, fun i hi h1 h2 => absurd h2 (by omega)⟩
      case round =>
       obtain ⟨j, hkj, hj, rfl, hg⟩ := hrel
       by_cases hjl : j < s.size
       ·cases h10 : (((s[j]'hjl).toNat : Int) == 10)
        ·have HN : Hid (∀ i (hi : i < s.size), k ≤ i → i < j + 1 → (((s[i]).toNat : Int) == 10) = false) := fun i hi h1 h2 => by
          by_cases e : i = j
          ·subst e; exact h10
          ·exact hg.out i hi h1 (by omega)
         have h10' : (((s[j]'hjl).toNat : Int) != 10) = true := by simpa using h10
         clear hg
         go_wp2_with fail
         go_round
         case rel => exact ⟨j + 1, by omega, by omega, by go_num, HN⟩
         case measure => simp [intOf]; omega
        ·have e := line_at hkj hj hg.out (.inr ⟨hjl, h10⟩)
         have h10' : (((s[j]'hjl).toNat : Int) != 10) = false := by simpa using h10
         have hg2 := hgo.out.comm hlt HB.out HC.out
         have hjk : k < j := by omega
         rw [e] at hg2
         have HG := Lib.hid hg2
         clear hg hg2 e
         go_wp2_with fail
         go_roundw
         case rel => exact ⟨j, D, by omega, by go_num, HG⟩
         case measure => simp [intOf]; omega
       ·have hje : j = s.size := by omega
        have e := line_at hkj hj hg.out (.inl hje)
        have hg2 := hgo.out.comm hlt HB.out HC.out
        rw [e] at hg2
        have HG := Lib.hid hg2
        clear hg hg2 e
        subst hje
        go_wp2_with fail
        go_roundw
        case rel => exact ⟨s.size, D, by omega, by go_num, HG⟩
        case measure => simp [intOf]; omega
   ·have hke : k = s.size := by omega
    subst hke
    have hlen := hgo.out.len
    have R := toks_room (n := D.length) (m := 1) (by omega) (by omega)
    have R1 := Lib.hid R.1
    have R2 := Lib.hid R.2
    clear R
    have hend : Lx.toks s = D ++ [⟨0, ByteArray.empty, (s.size : Nat)⟩] := (Lx.toks_scan s).det (hgo.out.scan _ (by rw [List.drop_of_length_le (by rw [HL.out]; omega)]; exact .fin _))
    have HE := Lib.hid hend
    clear hend
    go_wp2_with (at_builtin; go_must (refine wpList_appendL (E := tokEnc) (o := ⟨some 121, _, _, _, _, _⟩) Tryz.underlying59 infoTok rfl rfl (.tmp 116) (.tmp 120) rfl w.heap.size _ D rfl (hgo.out.own.alloc _) _ 1 1 [⟨0, ByteArray.empty, (s.size : Nat)⟩] rfl rfl (lies_tok (by simp [go_sem]) (by simp [go_sem]; rfl) (by simp [go_sem])) (fun h => by cases h) R1.out R2.out (by have := hgo.out.siz; simp; omega) ?_; intro out2 w2 hown2 hb2))
    have hbel : Below w.heap.size w w2 := (hgo.out.bel.alloc hgo.out.siz _).trans hb2
    go_ret
    exact ⟨_, rfl, by rw [HZ.out, HE.out]; exact hown2.sl, hbel⟩
end Go.Proofs.YtgcaeimlmkkeoaaGreat
namespace Go.Proofs.YtgcaeimlmkkeoaaGreat
open Go Go.RowKit
theorem tokList_toks (s : ByteArray) : tokList s = [] ∨ Toks (tokList s) := by
 unfold tokList
 split
 ·rename_i h
  have hs := Lx.toks_scan s
  obtain ⟨h1, _, _⟩ := hs.bounds
  refine .inr ⟨Lx.Scan.ends hs, ?_⟩
  have : s.data.toList.length = s.size := by simp
  omega
 ·exact .inl rfl
/-- what a text is read as, where an expr is expected -/
def exprOf (s : ByteArray) : Option Tree := wholeV (tokList s) (exprT (core (tokList s)))
def typOf (s : ByteArray) : Option Tree := wholeV (tokList s) (typT (core (tokList s)))
theorem parserExpr_any (s : ByteArray) (w : World) (hs : s.size ≤ 4611686018427387904) : Calls Tryz.prog 16 #[.string s] w (WholePost (exprOf s) w) :=
 Expr_any s (tokList s) w (tokList_toks s) (fun w => tokens_any s w hs)
theorem parserType_any (s : ByteArray) (w : World) (hs : s.size ≤ 4611686018427387904) : Calls Tryz.prog 18 #[.string s] w (WholePost (typOf s) w) :=
 Type_any s (tokList s) w (tokList_toks s) (fun w => tokens_any s w hs)
/-- the items and the errors of a text -/
def modOf (s : ByteArray) : Option (List Tree × List Int) := modV (tokList s) (itemT (core (tokList s)))
theorem parserModule_any (s : ByteArray) (w : World) (hs : s.size ≤ 4611686018427387904) : Calls Tryz.prog 12 #[.string s] w (ModPost (modOf s) w) :=
 Module_any s (tokList s) w (tokList_toks s) (fun w => tokens_any s w hs)
end Go.Proofs.YtgcaeimlmkkeoaaGreat
