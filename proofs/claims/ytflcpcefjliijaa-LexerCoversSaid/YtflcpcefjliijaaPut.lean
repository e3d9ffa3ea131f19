/-
  CONTRACTS: source.Put and Drop.
-/
import Derived.Test.YtflcpcefjliijaaSource
namespace Go.Proofs.Ytflcpcefjliijaa
open Go.RowKit
set_option linter.unusedVariables false

/-- where Put puts, and how many modules give way -/
def putAt (L : List Src) (nm : ByteArray) : Nat := L.findIdx (atLeast nm)
def putGone (L : List Src) (nm : ByteArray) : Nat := if L.findIdx (atLeast nm) < L.length ∧ isNamed nm (L.getD (L.findIdx (atLeast nm)) empty2) = true then 1 else 0
def putL (L : List Src) (nm tx : ByteArray) : List Src := L.take (putAt L nm) ++ ((nm, tx) :: L.drop (putAt L nm + putGone L nm))
def putR (L : List Src) (nm tx : ByteArray) : List Src × Int := if validB L = true then (if permB (nm, tx) = true then (putL L nm tx, 0) else (L, 2)) else (L, 1)
def dropL (L : List Src) (nm : ByteArray) : List Src := L.take (L.findIdx (isNamed nm)) ++ L.drop (L.findIdx (isNamed nm) + 1)
def dropR (L : List Src) (nm : ByteArray) : List Src × Int := if validB L = true then (if findB L nm = true then (dropL L nm, 0) else (L, 4)) else (L, 1)

theorem box_name (w : World) (nm tx : ByteArray) (t : TypeId) : (w.alloc (.cells #[.string nm, .string tx] t)).cell? ⟨w.heap.size, 0, none⟩ = some (.string nm) := by simp [go_sem]
theorem box_text (w : World) (nm tx : ByteArray) (t : TypeId) : (w.alloc (.cells #[.string nm, .string tx] t)).cell? ⟨w.heap.size, 1, none⟩ = some (.string tx) := by simp [go_sem]

/-- what stays in every later world: the list, and the box with a module -/
structure Stays (W : World) (p : Option Addr) (n cap b : Nat) (L : List Src) (nm tx : ByteArray) : Prop where
  list : SrcIs W (.slice p n cap) L
  name : W.cell? ⟨b, 0, none⟩ = some (.string nm)
  text : W.cell? ⟨b, 1, none⟩ = some (.string tx)
theorem Stays.below {W w' : World} {p : Option Addr} {n cap b : Nat} {L : List Src} {nm tx : ByteArray} (h : Stays W p n cap b L nm tx) (hb : Below W.heap.size W w') : Stays w' p n cap b L nm tx :=
  ⟨h.list.below hb, by rw [hb.cell (World.block_lt_of_cell? W _ h.name)]; exact h.name, by rw [hb.cell (World.block_lt_of_cell? W _ h.text)]; exact h.text⟩

set_option maxHeartbeats 1000000 in
theorem put_any (p : Option Addr) (n cap : Nat) (L : List Src) (nm tx : ByteArray) (w : World) (hsz : n ≤ 900000000) (hl : SrcIs w (.slice p n cap) L) (hf : Fits L) (f1 : nm.size ≤ maxLen) (f2 : tx.size ≤ maxLen) :
    Calls Try.prog 30 #[.slice p n cap, .agg #[.string nm, .string tx]] w (ListAnd w (putR L nm tx).1 (putR L nm tx).2) := by
  have hst : Stays (w.alloc (.cells #[.string nm, .string tx] 35)) p n cap w.heap.size L nm tx := ⟨hl.below (below_box w _), by simp [go_sem], by simp [go_sem]⟩
  have HS0 := Lib.hid hst
  have HB0 := Lib.hid (below_box w (.cells #[.string nm, .string tx] 35))
  have HC := Lib.hid (check_any p n cap L _ (by omega) hst.list hf)
  obtain ⟨hn, hc1, hc2, _⟩ := hl.lies
  have Hn := Lib.hid hn
  clear hst hl hn
  by_cases hv : validB L = true
  · have hck : chk L = 0 := by unfold chk; rw [if_pos hv]
    have HCK := Lib.hid hck
    clear hck
    by_cases hpm : permB (nm, tx) = true
    · have hR : putR L nm tx = (putL L nm tx, 0) := by unfold putR; rw [if_pos hv, if_pos hpm]
      have HR := Lib.hid hR
      have hP : posOf (atLeast nm) L = if L.findIdx (atLeast nm) < L.length then (L.findIdx (atLeast nm) : Int) else -1 := rfl
      have hA : putAt L nm = L.findIdx (atLeast nm) := rfl
      have hG : putGone L nm = if L.findIdx (atLeast nm) < L.length ∧ isNamed nm (L.getD (L.findIdx (atLeast nm)) empty2) = true then 1 else 0 := rfl
      have hle : L.findIdx (atLeast nm) ≤ L.length := List.findIdx_le_length
      by_cases hk : L.findIdx (atLeast nm) < L.length
      · rw [if_pos hk] at hP
        have hel : ∀ w', SrcIs w' (.slice p n cap) L → ∃ b off, p = some ⟨b, off, none⟩ ∧ w'.cell? ⟨b, off + L.findIdx (atLeast nm) * 2, none⟩ = some (.string (L.getD (L.findIdx (atLeast nm)) empty2).1) := by
          intro w' h
          obtain ⟨_, _, _, h4⟩ := h.lies
          obtain ⟨b, off, e, hcl⟩ := h4 (by rw [Hn.out]; omega)
          exact ⟨b, off, e, hcl.name _ hk⟩
        generalize L.findIdx (atLeast nm) = k at *
        have hkn : k < n := by rw [Hn.out]; exact hk
        have hki : (k : Int) < (n : Int) := by omega
        have HP := Lib.hid hP
        have HEL := Lib.hid hel
        have HK := Lib.hid hk
        have HA := Lib.hid hA
        by_cases he : isNamed nm (L.getD k empty2) = true
        · rw [if_pos ⟨hk, he⟩] at hG
          have HG := Lib.hid hG
          have he1 : (((L.getD k empty2).1.toList == nm.toList)) = true := he
          generalize (L.getD k empty2).1 = na at *
          have HE := Lib.hid he1
          clear hR hP hA hG hel he hk hle hv he1
          go_enter Try.func30, Try.ntmps30
          go_wp2_with fail
          refine HC.out.mono ?_
          rintro e w1 ⟨rfl, hb⟩
          rw [HCK.out]
          have hs1 := HS0.out.below hb
          have HB1 := Lib.hid (bnext HB0.out hb)
          have HS1 := Lib.hid hs1
          have g1 := hs1.name
          have g2 := hs1.text
          clear hs1 hb
          go_wp2_with fail
          refine (permitted_any _ _ _ f1 f2).mono ?_
          rintro e w' ⟨rfl, rfl⟩
          have hs2 := HS1.out.below (below_box w1 (.cells #[.string nm, .string tx] 35))
          have HB2 := Lib.hid (bnext HB1.out (below_box w1 (.cells #[.string nm, .string tx] 35)))
          have HS2 := Lib.hid hs2
          clear hs2
          go_wp2_with fail
          refine (firstPut_any p n cap w.heap.size L nm _ (by omega) HS2.out.list HS2.out.name).mono ?_
          rintro e w3 ⟨rfl, hb⟩
          rw [HP.out]
          have hs3 := HS2.out.below hb
          have HB3 := Lib.hid (bnext HB2.out hb)
          have HS3 := Lib.hid hs3
          clear g1 g2 hb
          have g1 := hs3.name
          have g2 := hs3.text
          obtain ⟨b, off, rfl, hcell⟩ := HEL.out w3 hs3.list
          clear hs3
          have heq := HE.out
          go_wp2_with fail
          go_quiet (fail)
          clear heq
          go_wp2_with fail
          have hw4 : Below w3.heap.size w3 ((w3.drewN nq).alloc (.cells #[.string nm, .string tx] 35)) := bnext (below_drewN (Below.refl _ w3) nq) (below_box _ _)
          have hsx := HS3.out.list.below hw4
          have HB4 := Lib.hid (bnext HB3.out hw4)
          refine (splice_one _ n cap k 1 w3.heap.size L nm tx _ hsx (by omega) hsz (box_name (w3.drewN nq) nm tx _) (box_text (w3.drewN nq) nm tx _)).mono ?_
          rintro e w5 ⟨v, rfl, hs, hb⟩
          have HS5 := Lib.hid hs
          have HB5 := Lib.hid (bnext HB4.out hb)
          clear hs hb hw4 hsx
          go_wp2_with fail
          go_ret2
          exact ⟨v, by rw [HR.out]; rfl, by rw [HR.out]; show SrcIs w5 v (putL L nm tx); unfold putL; rw [HA.out, HG.out]; exact HS5.out, HB5.out⟩
        · have he' : isNamed nm (L.getD k empty2) = false := by simpa using he
          rw [if_neg (fun h => he h.2)] at hG
          have HG := Lib.hid hG
          have he1 : (((L.getD k empty2).1.toList == nm.toList)) = false := he'
          generalize (L.getD k empty2).1 = na at *
          have HE := Lib.hid he1
          clear hR hP hA hG hel he he' hk hle hv he1
          go_enter Try.func30, Try.ntmps30
          go_wp2_with fail
          refine HC.out.mono ?_
          rintro e w1 ⟨rfl, hb⟩
          rw [HCK.out]
          have hs1 := HS0.out.below hb
          have HB1 := Lib.hid (bnext HB0.out hb)
          have HS1 := Lib.hid hs1
          have g1 := hs1.name
          have g2 := hs1.text
          clear hs1 hb
          go_wp2_with fail
          refine (permitted_any _ _ _ f1 f2).mono ?_
          rintro e w' ⟨rfl, rfl⟩
          have hs2 := HS1.out.below (below_box w1 (.cells #[.string nm, .string tx] 35))
          have HB2 := Lib.hid (bnext HB1.out (below_box w1 (.cells #[.string nm, .string tx] 35)))
          have HS2 := Lib.hid hs2
          clear hs2
          go_wp2_with fail
          refine (firstPut_any p n cap w.heap.size L nm _ (by omega) HS2.out.list HS2.out.name).mono ?_
          rintro e w3 ⟨rfl, hb⟩
          rw [HP.out]
          have hs3 := HS2.out.below hb
          have HB3 := Lib.hid (bnext HB2.out hb)
          have HS3 := Lib.hid hs3
          clear g1 g2 hb
          have g1 := hs3.name
          have g2 := hs3.text
          obtain ⟨b, off, rfl, hcell⟩ := HEL.out w3 hs3.list
          clear hs3
          have heq := HE.out
          go_wp2_with fail
          go_quiet (fail)
          clear heq
          go_wp2_with fail
          have hw4 : Below w3.heap.size w3 ((w3.drewN nq).alloc (.cells #[.string nm, .string tx] 35)) := bnext (below_drewN (Below.refl _ w3) nq) (below_box _ _)
          have hsx := HS3.out.list.below hw4
          have HB4 := Lib.hid (bnext HB3.out hw4)
          refine (splice_one _ n cap k 0 w3.heap.size L nm tx _ hsx (by omega) hsz (box_name (w3.drewN nq) nm tx _) (box_text (w3.drewN nq) nm tx _)).mono ?_
          rintro e w5 ⟨v, rfl, hs, hb⟩
          have HS5 := Lib.hid hs
          have HB5 := Lib.hid (bnext HB4.out hb)
          clear hs hb hw4 hsx
          go_wp2_with fail
          go_ret2
          exact ⟨v, by rw [HR.out]; rfl, by rw [HR.out]; show SrcIs w5 v (putL L nm tx); unfold putL; rw [HA.out, HG.out]; exact HS5.out, HB5.out⟩
      · rw [if_neg hk] at hP
        rw [if_neg (fun h => hk h.1)] at hG
        have hkn : L.findIdx (atLeast nm) = n := by rw [Hn.out]; omega
        rw [hkn] at hA
        have HP := Lib.hid hP
        have HA := Lib.hid hA
        have HG := Lib.hid hG
        clear hR hP hA hG hk hle hv hkn
        go_enter Try.func30, Try.ntmps30
        go_wp2_with fail
        refine HC.out.mono ?_
        rintro e w1 ⟨rfl, hb⟩
        rw [HCK.out]
        have hs1 := HS0.out.below hb
        have HB1 := Lib.hid (bnext HB0.out hb)
        have HS1 := Lib.hid hs1
        have g1 := hs1.name
        have g2 := hs1.text
        clear hs1 hb
        go_wp2_with fail
        refine (permitted_any _ _ _ f1 f2).mono ?_
        rintro e w' ⟨rfl, rfl⟩
        have hs2 := HS1.out.below (below_box w1 (.cells #[.string nm, .string tx] 35))
        have HB2 := Lib.hid (bnext HB1.out (below_box w1 (.cells #[.string nm, .string tx] 35)))
        have HS2 := Lib.hid hs2
        clear hs2
        go_wp2_with fail
        refine (firstPut_any p n cap w.heap.size L nm _ (by omega) HS2.out.list HS2.out.name).mono ?_
        rintro e w3 ⟨rfl, hb⟩
        rw [HP.out]
        have hs3 := HS2.out.below hb
        have HB3 := Lib.hid (bnext HB2.out hb)
        have HS3 := Lib.hid hs3
        clear g1 g2 hb
        have g1 := hs3.name
        have g2 := hs3.text
        clear hs3
        go_wp2_with fail
        have hw4 : Below w3.heap.size w3 (w3.alloc (.cells #[.string nm, .string tx] 35)) := below_box _ _
        have hsx := HS3.out.list.below hw4
        have HB4 := Lib.hid (bnext HB3.out hw4)
        refine (splice_one _ n cap n 0 w3.heap.size L nm tx _ hsx (by omega) hsz (box_name w3 nm tx _) (box_text w3 nm tx _)).mono ?_
        rintro e w5 ⟨v, rfl, hs, hb⟩
        have HS5 := Lib.hid hs
        have HB5 := Lib.hid (bnext HB4.out hb)
        clear hs hb hw4 hsx
        go_wp2_with fail
        go_ret2
        exact ⟨v, by rw [HR.out]; rfl, by rw [HR.out]; show SrcIs w5 v (putL L nm tx); unfold putL; rw [HA.out, HG.out]; exact HS5.out, HB5.out⟩
    · have hpm' : permB (nm, tx) = false := by simpa using hpm
      have hR : putR L nm tx = (L, 2) := by unfold putR; rw [if_pos hv, if_neg hpm]
      have HR := Lib.hid hR
      clear hR hpm hv
      go_enter Try.func30, Try.ntmps30
      go_wp2_with fail
      refine HC.out.mono ?_
      rintro e w1 ⟨rfl, hb⟩
      rw [HCK.out]
      have hs1 := HS0.out.below hb
      have HB1 := Lib.hid (bnext HB0.out hb)
      have HS1 := Lib.hid hs1
      have g1 := hs1.name
      have g2 := hs1.text
      clear hs1 hb
      go_wp2_with fail
      refine (permitted_any _ _ _ f1 f2).mono ?_
      rintro e w' ⟨rfl, rfl⟩
      have hs2 := HS1.out.below (below_box w1 (.cells #[.string nm, .string tx] 35))
      have HB2 := Lib.hid (bnext HB1.out (below_box w1 (.cells #[.string nm, .string tx] 35)))
      have HS2 := Lib.hid hs2
      clear hs2
      go_wp2_with fail
      refine (unchanged_any p n cap L _ HS2.out.list hsz).mono ?_
      rintro e w5 ⟨v, rfl, hs, hb⟩
      have HS5 := Lib.hid hs
      have HB5 := Lib.hid (bnext HB2.out hb)
      clear hs hb
      go_wp2_with fail
      go_ret2
      exact ⟨v, by rw [HR.out]; rfl, by rw [HR.out]; exact HS5.out, HB5.out⟩
  · have hck : chk L = 1 := by unfold chk; rw [if_neg hv]
    have HCK := Lib.hid hck
    have hR : putR L nm tx = (L, 1) := by unfold putR; rw [if_neg hv]
    have HR := Lib.hid hR
    clear hck hR hv
    go_enter Try.func30, Try.ntmps30
    go_wp2_with fail
    refine HC.out.mono ?_
    rintro e w1 ⟨rfl, hb⟩
    rw [HCK.out]
    have hs1 := HS0.out.below hb
    have HB1 := Lib.hid (bnext HB0.out hb)
    have HS1 := Lib.hid hs1
    have g1 := hs1.name
    have g2 := hs1.text
    clear hs1 hb
    go_wp2_with fail
    refine (unchanged_any p n cap L _ HS1.out.list hsz).mono ?_
    rintro e w5 ⟨v, rfl, hs, hb⟩
    have HS5 := Lib.hid hs
    have HB5 := Lib.hid (bnext HB1.out hb)
    clear hs hb
    go_wp2_with fail
    go_ret2
    exact ⟨v, by rw [HR.out]; rfl, by rw [HR.out]; exact HS5.out, HB5.out⟩

set_option maxHeartbeats 1000000 in
theorem drop_any (p : Option Addr) (n cap : Nat) (L : List Src) (nm : ByteArray) (w : World) (hsz : n ≤ 900000000) (hl : SrcIs w (.slice p n cap) L) (hf : Fits L) :
    Calls Try.prog 39 #[.slice p n cap, .string nm] w (ListAnd w (dropR L nm).1 (dropR L nm).2) := by
  have HL := Lib.hid hl
  have HC := Lib.hid (check_any p n cap L _ (by omega) hl hf)
  obtain ⟨hn, hc1, hc2, _⟩ := hl.lies
  have Hn := Lib.hid hn
  clear hl hn
  by_cases hv : validB L = true
  · have hck : chk L = 0 := by unfold chk; rw [if_pos hv]
    have HCK := Lib.hid hck
    clear hck
    have hP : posOf (isNamed nm) L = if L.findIdx (isNamed nm) < L.length then (L.findIdx (isNamed nm) : Int) else -1 := rfl
    by_cases hk : L.findIdx (isNamed nm) < L.length
    · rw [if_pos hk] at hP
      have hfb : findB L nm = true := decide_eq_true hk
      have hR : dropR L nm = (dropL L nm, 0) := by unfold dropR; rw [if_pos hv, if_pos hfb]
      have hA : dropL L nm = L.take (L.findIdx (isNamed nm)) ++ L.drop (L.findIdx (isNamed nm) + 1) := rfl
      have HR := Lib.hid hR
      generalize L.findIdx (isNamed nm) = k at *
      have hkn : k < n := by rw [Hn.out]; exact hk
      have hki : (k : Int) < (n : Int) := by omega
      have HP := Lib.hid hP
      have HA := Lib.hid hA
      clear hP hfb hR hA hk hv
      go_enter Try.func39, Try.ntmps39
      go_wp2_with fail
      refine HC.out.mono ?_
      rintro e w1 ⟨rfl, hb⟩
      rw [HCK.out]
      have HB1 := Lib.hid hb
      have HS1 := Lib.hid (HL.out.below hb)
      clear hb
      go_wp2_with fail
      refine (sourceNamed_any p n cap L nm _ (by omega) HS1.out).mono ?_
      rintro e w2 ⟨rfl, hb⟩
      rw [HP.out]
      have HB2 := Lib.hid (bnext HB1.out hb)
      have HS2 := Lib.hid (HS1.out.below hb)
      clear hb
      go_wp2_with fail
      refine (splice_none p n cap k 1 L _ HS2.out (by omega) hsz).mono ?_
      rintro e w5 ⟨v, rfl, hs, hb⟩
      have HS5 := Lib.hid hs
      have HB5 := Lib.hid (bnext HB2.out hb)
      clear hs hb
      go_wp2_with fail
      go_ret2
      exact ⟨v, by rw [HR.out]; rfl, by rw [HR.out]; show SrcIs w5 v (dropL L nm); rw [HA.out]; exact HS5.out, HB5.out⟩
    · rw [if_neg hk] at hP
      have hfb : findB L nm = false := decide_eq_false hk
      have hR : dropR L nm = (L, 4) := by unfold dropR; rw [if_pos hv, hfb]; rfl
      have HR := Lib.hid hR
      have HP := Lib.hid hP
      clear hP hfb hR hk hv
      go_enter Try.func39, Try.ntmps39
      go_wp2_with fail
      refine HC.out.mono ?_
      rintro e w1 ⟨rfl, hb⟩
      rw [HCK.out]
      have HB1 := Lib.hid hb
      have HS1 := Lib.hid (HL.out.below hb)
      clear hb
      go_wp2_with fail
      refine (sourceNamed_any p n cap L nm _ (by omega) HS1.out).mono ?_
      rintro e w2 ⟨rfl, hb⟩
      rw [HP.out]
      have HB2 := Lib.hid (bnext HB1.out hb)
      have HS2 := Lib.hid (HS1.out.below hb)
      clear hb
      go_wp2_with fail
      refine (unchanged_any p n cap L _ HS2.out hsz).mono ?_
      rintro e w5 ⟨v, rfl, hs, hb⟩
      have HS5 := Lib.hid hs
      have HB5 := Lib.hid (bnext HB2.out hb)
      clear hs hb
      go_wp2_with fail
      go_ret2
      exact ⟨v, by rw [HR.out]; rfl, by rw [HR.out]; exact HS5.out, HB5.out⟩
  · have hck : chk L = 1 := by unfold chk; rw [if_neg hv]
    have HCK := Lib.hid hck
    have hR : dropR L nm = (L, 1) := by unfold dropR; rw [if_neg hv]
    have HR := Lib.hid hR
    clear hck hR hv
    go_enter Try.func39, Try.ntmps39
    go_wp2_with fail
    refine HC.out.mono ?_
    rintro e w1 ⟨rfl, hb⟩
    rw [HCK.out]
    have HB1 := Lib.hid hb
    have HS1 := Lib.hid (HL.out.below hb)
    clear hb
    go_wp2_with fail
    refine (unchanged_any p n cap L _ HS1.out hsz).mono ?_
    rintro e w5 ⟨v, rfl, hs, hb⟩
    have HS5 := Lib.hid hs
    have HB5 := Lib.hid (bnext HB1.out hb)
    clear hs hb
    go_wp2_with fail
    go_ret2
    exact ⟨v, by rw [HR.out]; rfl, by rw [HR.out]; exact HS5.out, HB5.out⟩
end Go.Proofs.Ytflcpcefjliijaa
