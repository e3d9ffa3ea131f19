/-
  CONTRACTS: source.Apply.
-/
import Derived.Test.YtflcpcefjliijaaPut
namespace Go.Proofs.Ytflcpcefjliijaa
open Go.RowKit
set_option linter.unusedVariables false

/-- the error of an edit of a text -/
def editErr (n : Nat) (at_ c : Int) (m : Nat) : Int := if at_ < 0 ∨ c < 0 ∨ (n : Int) - at_ < c then 2 else if (20000 : Int) < (n : Int) - c + (m : Int) then 3 else 0
/-- the text after an edit -/
def editText (s : ByteArray) (at_ c : Int) (tx : ByteArray) : ByteArray := s.extract 0 at_.toNat ++ tx ++ s.extract (at_ + c).toNat s.size
def editRes (s : ByteArray) (at_ c : Int) (tx : ByteArray) : ByteArray := if editErr s.size at_ c tx.size = 0 then editText s at_ c tx else ⟨#[]⟩

theorem string_upto (s : ByteArray) (at_ : Int) (h0 : 0 ≤ at_) (h : at_ ≤ s.size) (w : World) :
    (Instr.slice 9 (.string s) none (some (.int .i64 at_)) none).run Try.prog w = .ok (.string (s.extract 0 at_.toNat)) w :=
  run_slice_string_h w 9 s Try.underlying9 .i64 at_ h0 h
theorem string_from (s : ByteArray) (at_ : Int) (h0 : 0 ≤ at_) (h : at_ ≤ s.size) (w : World) :
    (Instr.slice 9 (.string s) (some (.int .i64 at_)) none none).run Try.prog w = .ok (.string (s.extract at_.toNat s.size)) w :=
  run_slice_string_l w 9 s Try.underlying9 .i64 at_ h0 h

set_option maxHeartbeats 1000000 in
theorem edited_any (s m tx : ByteArray) (at_ c : Int) (w : World) (hs : s.size ≤ 20000) (ht : tx.size ≤ 140737488355328) (a1 : -9223372036854775808 ≤ at_) (a2 : at_ ≤ 9223372036854775807) (c1 : -9223372036854775808 ≤ c) (c2 : c ≤ 9223372036854775807) :
    Calls Try.prog 49 #[.string s, .agg #[.string m, .int .i64 at_, .int .i64 c, .string tx]] w fun e w' => e = .returned (.tuple #[.string (editRes s at_ c tx), .int .i64 (editErr s.size at_ c tx.size)]) ∧ Below w.heap.size w w' := by
  have HB0 := Lib.hid (below_box w (.cells #[.string m, .int .i64 at_, .int .i64 c, .string tx] 31))
  by_cases h2 : at_ < 0 ∨ c < 0 ∨ (s.size : Int) - at_ < c
  · have hE : editErr s.size at_ c tx.size = 2 := by unfold editErr; rw [if_pos h2]
    have hR : editRes s at_ c tx = ⟨#[]⟩ := by unfold editRes; rw [hE]; rfl
    have HE := Lib.hid hE
    have HR := Lib.hid hR
    clear hE hR
    rcases h2 with h | h
    · go_enter Try.func49, Try.ntmps49
      go_wp2
      go_ret2
      exact ⟨by rw [HR.out, HE.out]; rfl, HB0.out⟩
    · by_cases hn : at_ < 0
      · go_enter Try.func49, Try.ntmps49
        go_wp2
        go_ret2
        exact ⟨by rw [HR.out, HE.out]; rfl, HB0.out⟩
      · by_cases hc : c < 0
        · go_enter Try.func49, Try.ntmps49
          go_wp2
          go_ret2
          exact ⟨by rw [HR.out, HE.out]; rfl, HB0.out⟩
        · have h3 : (s.size : Int) - at_ < c := by omega
          clear h
          go_enter Try.func49, Try.ntmps49
          go_wp2
          go_ret2
          exact ⟨by rw [HR.out, HE.out]; rfl, HB0.out⟩
  · have n1 : ¬ at_ < 0 := by omega
    have n2 : ¬ c < 0 := by omega
    have n3 : ¬ (s.size : Int) - at_ < c := by omega
    by_cases h3 : (20000 : Int) < (s.size : Int) - c + (tx.size : Int)
    · have hE : editErr s.size at_ c tx.size = 3 := by unfold editErr; rw [if_neg h2, if_pos h3]
      have hR : editRes s at_ c tx = ⟨#[]⟩ := by unfold editRes; rw [hE]; rfl
      have HE := Lib.hid hE
      have HR := Lib.hid hR
      clear hE hR h2
      go_enter Try.func49, Try.ntmps49
      go_wp2
      go_ret2
      exact ⟨by rw [HR.out, HE.out]; rfl, HB0.out⟩
    · have hE : editErr s.size at_ c tx.size = 0 := by unfold editErr; rw [if_neg h2, if_neg h3]
      have hR : editRes s at_ c tx = s.extract 0 at_.toNat ++ tx ++ s.extract (at_ + c).toNat s.size := by unfold editRes; rw [hE]; rfl
      have HE := Lib.hid hE
      have HR := Lib.hid hR
      have r1 := string_upto s at_ (by omega) (by omega)
      have r2 := string_from s (at_ + c) (by omega) (by omega)
      have z1 : (s.extract 0 at_.toNat).size ≤ 20000 := by rw [ByteArray.size_extract]; omega
      have z2 : (s.extract (at_ + c).toNat s.size).size ≤ 20000 := by rw [ByteArray.size_extract]; omega
      clear hE hR h2
      generalize s.extract 0 at_.toNat = A at *
      generalize s.extract (at_ + c).toNat s.size = B at *
      have w1 : IntKind.i64.wrap (at_ + c) = at_ + c := IntWalk.i64_in _ (by omega)
      have r3 : ∀ u : World, (Op.stringOp .add A tx).run Try.prog u = .ok (.string (A ++ tx)) u := fun u => run_string_add_sum u A tx (by omega)
      have r4 : ∀ u : World, (Op.stringOp .add (A ++ tx) B).run Try.prog u = .ok (.string (A ++ tx ++ B)) u := fun u => run_string_add_sum u (A ++ tx) B (by rw [ByteArray.size_append]; omega)
      go_enter Try.func49, Try.ntmps49
      go_wp2
      go_quiet (fail)
      go_wp2
      go_ret2
      exact ⟨by rw [HR.out, HE.out]; rfl, below_drewN HB0.out _⟩
/-- what a list becomes by an edit -/
def applyR (L : List Src) (m : ByteArray) (at_ c : Int) (tx : ByteArray) : List Src × Int :=
  if validB L = true then (if findB L m = true then
    (if editErr (findT L m).size at_ c tx.size = 0 then (L.take (L.findIdx (isNamed m)) ++ ((m, editRes (findT L m) at_ c tx) :: L.drop (L.findIdx (isNamed m) + 1)), 0) else (L, editErr (findT L m).size at_ c tx.size)) else (L, 4)) else (L, 1)

theorem validTo_le (L : List Src) : ∀ k, validTo L k = true → ∀ j, j < k → okSrc L j = true
  | 0, _, j, hj => by omega
  | k + 1, h, j, hj => by
    simp [validTo] at h
    by_cases e : j = k
    · subst e; exact h.2
    · exact validTo_le L k h.1 j (by omega)
theorem valid_perm (L : List Src) (h : validB L = true) (k : Nat) (hk : k < L.length) : permB (L.getD k empty2) = true := by
  have := validTo_le L L.length h k hk
  unfold okSrc at this
  simp only [Bool.and_eq_true] at this
  exact this.1
theorem valid_text (L : List Src) (h : validB L = true) (k : Nat) (hk : k < L.length) : (L.getD k empty2).2.size ≤ 20000 := by
  have := valid_perm L h k hk
  unfold permB at this
  simp only [Bool.and_eq_true, decide_eq_true_eq] at this
  exact this.2

structure StaysE (W : World) (p : Option Addr) (n cap b : Nat) (L : List Src) (m : ByteArray) (at_ cc : Int) (tx : ByteArray) : Prop where
  list : SrcIs W (.slice p n cap) L
  e0 : W.cell? ⟨b, 0, none⟩ = some (.string m)
  e1 : W.cell? ⟨b, 1, none⟩ = some (.int .i64 at_)
  e2 : W.cell? ⟨b, 2, none⟩ = some (.int .i64 cc)
  e3 : W.cell? ⟨b, 3, none⟩ = some (.string tx)
theorem StaysE.below {W w' : World} {p : Option Addr} {n cap b : Nat} {L : List Src} {m tx : ByteArray} {at_ cc : Int} (h : StaysE W p n cap b L m at_ cc tx) (hb : Below W.heap.size W w') : StaysE w' p n cap b L m at_ cc tx :=
  ⟨h.list.below hb, by rw [hb.cell (World.block_lt_of_cell? W _ h.e0)]; exact h.e0, by rw [hb.cell (World.block_lt_of_cell? W _ h.e1)]; exact h.e1, by rw [hb.cell (World.block_lt_of_cell? W _ h.e2)]; exact h.e2, by rw [hb.cell (World.block_lt_of_cell? W _ h.e3)]; exact h.e3⟩

theorem editErr_ne (n : Nat) (at_ c : Int) (k : Nat) (h : ¬ editErr n at_ c k = 0) : editErr n at_ c k = 2 ∨ editErr n at_ c k = 3 := by
  unfold editErr at *
  split at h
  · left; rw [if_pos ‹_›]
  · rw [if_neg ‹_›]
    split at h
    · right; rw [if_pos ‹_›]
    · exact absurd rfl h

set_option maxHeartbeats 1000000 in
theorem apply_any (p : Option Addr) (n cap : Nat) (L : List Src) (m tx : ByteArray) (at_ c : Int) (w : World) (hsz : n ≤ 900000000) (hl : SrcIs w (.slice p n cap) L) (hf : Fits L) (f2 : tx.size ≤ 140737488355328)
    (a1 : -9223372036854775808 ≤ at_) (a2 : at_ ≤ 9223372036854775807) (c1 : -9223372036854775808 ≤ c) (c2 : c ≤ 9223372036854775807) :
    Calls Try.prog 19 #[.slice p n cap, .agg #[.string m, .int .i64 at_, .int .i64 c, .string tx]] w (ListAnd w (applyR L m at_ c tx).1 (applyR L m at_ c tx).2) := by
  have hst : StaysE (w.alloc (.cells #[.string m, .int .i64 at_, .int .i64 c, .string tx] 31)) p n cap w.heap.size L m at_ c tx := ⟨hl.below (below_box w _), by simp [go_sem], by simp [go_sem], by simp [go_sem], by simp [go_sem]⟩
  have HS0 := Lib.hid hst
  have HB0 := Lib.hid (below_box w (.cells #[.string m, .int .i64 at_, .int .i64 c, .string tx] 31))
  have HC := Lib.hid (check_any p n cap L _ (by omega) hst.list hf)
  obtain ⟨hn, hc1, hc2, _⟩ := hl.lies
  have Hn := Lib.hid hn
  clear hst hl hn
  by_cases hv : validB L = true
  · have hck : chk L = 0 := by unfold chk; rw [if_pos hv]
    have HCK := Lib.hid hck
    clear hck
    have hP : posOf (isNamed m) L = if L.findIdx (isNamed m) < L.length then (L.findIdx (isNamed m) : Int) else -1 := rfl
    by_cases hk : L.findIdx (isNamed m) < L.length
    · rw [if_pos hk] at hP
      have hfb : findB L m = true := decide_eq_true hk
      have hft : findT L m = (L.getD (L.findIdx (isNamed m)) empty2).2 := by unfold findT; rw [if_pos hk]
      have hR : applyR L m at_ c tx = if editErr (findT L m).size at_ c tx.size = 0 then (L.take (L.findIdx (isNamed m)) ++ ((m, editRes (findT L m) at_ c tx) :: L.drop (L.findIdx (isNamed m) + 1)), 0) else (L, editErr (findT L m).size at_ c tx.size) := by
        unfold applyR; rw [if_pos hv, if_pos hfb]
      have hts : (findT L m).size ≤ 20000 := by rw [hft]; exact valid_text L hv _ hk
      have hel : ∀ w', SrcIs w' (.slice p n cap) L → ∃ b off, p = some ⟨b, off, none⟩ ∧ w'.cell? ⟨b, off + L.findIdx (isNamed m) * 2 + 1, none⟩ = some (.string (findT L m)) := by
        intro w' h
        obtain ⟨_, _, _, h4⟩ := h.lies
        obtain ⟨b, off, e, hcl⟩ := h4 (by rw [Hn.out]; omega)
        exact ⟨b, off, e, by rw [hft]; exact hcl.text _ hk⟩
      generalize L.findIdx (isNamed m) = k at *
      generalize findT L m = s at *
      have hkn : k < n := by rw [Hn.out]; exact hk
      have hki : (k : Int) < (n : Int) := by omega
      have HP := Lib.hid hP
      have HEL := Lib.hid hel
      by_cases herr : editErr s.size at_ c tx.size = 0
      · rw [if_pos herr] at hR
        have HR := Lib.hid hR
        have HERR := Lib.hid herr
        clear hP hfb hft hR hel hk hv herr
        go_enter Try.func19, Try.ntmps19
        go_wp2_with fail
        refine HC.out.mono ?_
        rintro e w1 ⟨rfl, hb⟩
        rw [HCK.out]
        have hs1 := HS0.out.below hb
        have HB1 := Lib.hid (bnext HB0.out hb)
        have HS1 := Lib.hid hs1
        have g0 := hs1.e0
        have g1 := hs1.e1
        have g2 := hs1.e2
        have g3 := hs1.e3
        clear hs1 hb
        go_wp2_with fail
        refine (sourceNamed_any p n cap L m _ (by omega) HS1.out.list).mono ?_
        rintro e w2 ⟨rfl, hb⟩
        rw [HP.out]
        have hs2 := HS1.out.below hb
        have HB2 := Lib.hid (bnext HB1.out hb)
        have HS2 := Lib.hid hs2
        clear g0 g1 g2 g3 hb
        have g0 := hs2.e0
        have g1 := hs2.e1
        have g2 := hs2.e2
        have g3 := hs2.e3
        obtain ⟨b, off, rfl, hcell⟩ := HEL.out w2 hs2.list
        clear hs2
        have q0 := fun q => cell_grew g0 q
        have q1 := fun q => cell_grew g1 q
        have q2 := fun q => cell_grew g2 q
        have q3 := fun q => cell_grew g3 q
        have q4 := fun q => cell_grew hcell q
        have HED := Lib.hid (fun W => edited_any s m tx at_ c W hts f2 a1 a2 c1 c2)
        clear g0 g1 g2 g3 hcell
        go_wp2_with fail
        refine wp_region_grew (by kernel_rfl) (by kernel_rfl) ?_
        repeat (go_big_quiet_step ((go_at_call 49; exact Calls.grew_of (HED.out _))))
        refine wpQuiet_nil ?_
        intro w3 hq
        have hw3 := of_grew hq
        have HB3 := Lib.hid (bnext HB2.out hw3)
        have hs3 := HS2.out.below hw3
        have HS3 := Lib.hid hs3
        have g0 := hs3.e0
        clear hq hw3 hs3 q0 q1 q2 q3 q4
        rw [HERR.out]
        go_wp2_with fail
        have hsx := HS3.out.list.below (below_box w3 (.cells #[.string m, .string (editRes s at_ c tx)] 35))
        have HB4 := Lib.hid (bnext HB3.out (below_box w3 (.cells #[.string m, .string (editRes s at_ c tx)] 35)))
        refine (splice_one _ n cap k 1 w3.heap.size L m (editRes s at_ c tx) _ hsx (by omega) hsz (box_name w3 m _ _) (box_text w3 m _ _)).mono ?_
        rintro e w5 ⟨v, rfl, hs, hb⟩
        have HS5 := Lib.hid hs
        have HB5 := Lib.hid (bnext HB4.out hb)
        clear hs hb hsx
        go_wp2_with fail
        go_ret2
        exact ⟨v, by rw [HR.out]; rfl, by rw [HR.out]; exact HS5.out, HB5.out⟩
      · rw [if_neg herr] at hR
        have HR := Lib.hid hR
        rcases editErr_ne _ _ _ _ herr with herr' | herr'
        all_goals
          have HERR := Lib.hid herr'
          clear hP hfb hft hR hel hk hv herr herr'
          go_enter Try.func19, Try.ntmps19
          go_wp2_with fail
          refine HC.out.mono ?_
          rintro e w1 ⟨rfl, hb⟩
          rw [HCK.out]
          have hs1 := HS0.out.below hb
          have HB1 := Lib.hid (bnext HB0.out hb)
          have HS1 := Lib.hid hs1
          have g0 := hs1.e0
          have g1 := hs1.e1
          have g2 := hs1.e2
          have g3 := hs1.e3
          clear hs1 hb
          go_wp2_with fail
          refine (sourceNamed_any p n cap L m _ (by omega) HS1.out.list).mono ?_
          rintro e w2 ⟨rfl, hb⟩
          rw [HP.out]
          have hs2 := HS1.out.below hb
          have HB2 := Lib.hid (bnext HB1.out hb)
          have HS2 := Lib.hid hs2
          clear g0 g1 g2 g3 hb
          have g0 := hs2.e0
          have g1 := hs2.e1
          have g2 := hs2.e2
          have g3 := hs2.e3
          obtain ⟨b, off, rfl, hcell⟩ := HEL.out w2 hs2.list
          clear hs2
          have q0 := fun q => cell_grew g0 q
          have q1 := fun q => cell_grew g1 q
          have q2 := fun q => cell_grew g2 q
          have q3 := fun q => cell_grew g3 q
          have q4 := fun q => cell_grew hcell q
          have HED := Lib.hid (fun W => edited_any s m tx at_ c W hts f2 a1 a2 c1 c2)
          clear g0 g1 g2 g3 hcell
          go_wp2_with fail
          refine wp_region_grew (by kernel_rfl) (by kernel_rfl) ?_
          repeat (go_big_quiet_step ((go_at_call 49; exact Calls.grew_of (HED.out _))))
          refine wpQuiet_nil ?_
          intro w3 hq
          have hw3 := of_grew hq
          have HB3 := Lib.hid (bnext HB2.out hw3)
          have hs3 := HS2.out.below hw3
          have HS3 := Lib.hid hs3
          have g0 := hs3.e0
          clear hq hw3 hs3 q0 q1 q2 q3 q4
          rw [HERR.out]
          go_wp2_with fail
          refine (unchanged_any _ n cap L _ HS3.out.list hsz).mono ?_
          rintro e w5 ⟨v, rfl, hs, hb⟩
          have HS5 := Lib.hid hs
          have HB5 := Lib.hid (bnext HB3.out hb)
          clear hs hb
          go_wp2_with fail
          go_ret2
          exact ⟨v, by rw [HR.out, HERR.out]; rfl, by rw [HR.out]; exact HS5.out, HB5.out⟩
    · rw [if_neg hk] at hP
      have hfb : findB L m = false := decide_eq_false hk
      have hR : applyR L m at_ c tx = (L, 4) := by unfold applyR; rw [if_pos hv, hfb]; rfl
      have HR := Lib.hid hR
      have HP := Lib.hid hP
      clear hP hfb hR hk hv
      go_enter Try.func19, Try.ntmps19
      go_wp2_with fail
      refine HC.out.mono ?_
      rintro e w1 ⟨rfl, hb⟩
      rw [HCK.out]
      have hs1 := HS0.out.below hb
      have HB1 := Lib.hid (bnext HB0.out hb)
      have HS1 := Lib.hid hs1
      have g0 := hs1.e0
      have g1 := hs1.e1
      have g2 := hs1.e2
      have g3 := hs1.e3
      clear hs1 hb
      go_wp2_with fail
      refine (sourceNamed_any p n cap L m _ (by omega) HS1.out.list).mono ?_
      rintro e w2 ⟨rfl, hb⟩
      rw [HP.out]
      have hs2 := HS1.out.below hb
      have HB2 := Lib.hid (bnext HB1.out hb)
      have HS2 := Lib.hid hs2
      clear g0 g1 g2 g3 hb
      have g0 := hs2.e0
      have g1 := hs2.e1
      have g2 := hs2.e2
      have g3 := hs2.e3
      clear hs2
      go_wp2_with fail
      refine (unchanged_any p n cap L _ HS2.out.list hsz).mono ?_
      rintro e w5 ⟨v, rfl, hs, hb⟩
      have HS5 := Lib.hid hs
      have HB5 := Lib.hid (bnext HB2.out hb)
      clear hs hb
      go_wp2_with fail
      go_ret2
      exact ⟨v, by rw [HR.out]; rfl, by rw [HR.out]; exact HS5.out, HB5.out⟩
  · have hck : chk L = 1 := by unfold chk; rw [if_neg hv]
    have HCK := Lib.hid hck
    have hR : applyR L m at_ c tx = (L, 1) := by unfold applyR; rw [if_neg hv]
    have HR := Lib.hid hR
    clear hck hR hv
    go_enter Try.func19, Try.ntmps19
    go_wp2_with fail
    refine HC.out.mono ?_
    rintro e w1 ⟨rfl, hb⟩
    rw [HCK.out]
    have hs1 := HS0.out.below hb
    have HB1 := Lib.hid (bnext HB0.out hb)
    have HS1 := Lib.hid hs1
    have g0 := hs1.e0
    have g1 := hs1.e1
    have g2 := hs1.e2
    have g3 := hs1.e3
    clear hs1 hb
    go_wp2_with fail
    refine (unchanged_any p n cap L _ HS1.out.list hsz).mono ?_
    rintro e w5 ⟨v, rfl, hs, hb⟩
    have HS5 := Lib.hid hs
    have HB5 := Lib.hid (bnext HB1.out hb)
    clear hs hb
    go_wp2_with fail
    go_ret2
    exact ⟨v, by rw [HR.out]; rfl, by rw [HR.out]; exact HS5.out, HB5.out⟩
end Go.Proofs.Ytflcpcefjliijaa
