/-
  CONTRACTS: the reference's Find and Copy; the law for its appends.
-/
import Derived.Test.YtflcpcefjliijaaApply
import Derived.Laws.AppendOwnNone
namespace Go.Proofs.Ytflcpcefjliijaa
open Go.RowKit
set_option linter.unusedVariables false

/-- a slice of the call's own that reads as the modules L -/
def OwnS (w : World) (base : Nat) (v : Value) (L : List Src) : Prop := w.ownsRow base 35 2 v L.length (srcCells L)

theorem OwnS.srcs {w : World} {base : Nat} {v : Value} {L : List Src} (h : OwnS w base v L) : SrcIs w v L := by
  obtain ⟨h1, h2 | ⟨g, cap, cur, e, hb, hg, hn, hm, hs, ht⟩⟩ := h
  · obtain ⟨e, h0⟩ := h2
    have : L = [] := List.eq_nil_of_length_eq_zero h0
    subst this; subst e
    exact SrcIs.isNil w
  · subst e
    refine ⟨_, cap, rfl, hn, hm, fun _ => ⟨g, 0, rfl, ?_⟩⟩
    intro j v hv
    rw [cell_of_row w g (0 + j) cur _ (0, 0) hg]
    rw [← ht, List.getElem?_take] at hv
    split at hv
    · simpa using hv
    · cases hv
theorem OwnS.isNil (w : World) (base : Nat) : OwnS w base (.slice none 0 0) [] := World.ownsRow_nil w base _ _
theorem OwnS.alloc {w : World} {base : Nat} {v : Value} {L : List Src} (h : OwnS w base v L) (o : Obj) : OwnS (w.alloc o) base v L := World.ownsRow.alloc h o

theorem grown_below {w w' : World} {base : Nat} {v : Value} {L : List Src} (h : OwnS w base v L) (hg : w.grownBy w' v.ownBlock) (hb : base ≤ w.heap.size) : Below base w w' :=
  (Below.refl base w).grown hg hb (fun k hk => (World.ownsRow.lt h k hk).1)

theorem wpList_appendS {w : World} {ops : Array Oper} {rest : List Oper} {o : Oper} {a : Act} {Q : Exit → Act → World → Prop} (hgd : o.guard = none) (s x : Operand)
    (ho : o.op = .call { callee := .builtin .append, args := #[s, x], argTypes := #[28, 28] })
    (base : Nat) (v : Value) (L : List Src) (hs : a.eval s = v) (hown : OwnS w base v L) (p : Option Addr) (m c : Nat) (M : List Src) (hx : a.eval x = .slice p m c) (hM : m = M.length) (hl : LiesAt w p M) (hp : p = none → c = 0)
    (hL : L.length + M.length ≤ 1800000000) (hbase : base ≤ w.heap.size)
    (h : ∀ v' w', OwnS w' base v' (L ++ M) → Below base w w' → wpList Try.prog ops Q rest (a.put o.dst v') w') : wpList Try.prog ops Q (o :: rest) a w := by
  obtain ⟨i0, hi, hz0, hz1, hz2⟩ := info_parts info24
  subst hM
  by_cases h0 : M = []
  · subst h0
    cases p with
    | none =>
      have hc0 := hp rfl
      subst hc0
      exact wpList_append_own_none hgd s x _ ho base 35 i0 2 Try.underlying28 hi v L.length (srcCells L) hs hown hx (h v w (by simpa using hown) (Below.refl _ _))
    | some ad =>
      refine wpList_append_own w hgd s x 28 ho base 35 i0 _ 2 32 Try.underlying28 hi hz0 hz1 hz2 rfl (by decide) v L.length (srcCells L) hs hown ad 0 c [] hx rfl (fun j u hu => by simp at hu) (fun u hu => by simp at hu) (by unfold maxLen; simp at hL; omega) (by simp at hL; omega) hbase ?_
      intro v' w' h1 h2 _
      exact h v' w' (by simpa [OwnS] using h1) (grown_below hown h2 hbase)
  · obtain ⟨b, off, rfl, hcl⟩ := hl (List.length_pos_iff.2 h0)
    refine wpList_append_own w hgd s x 28 ho base 35 i0 _ 2 32 Try.underlying28 hi hz0 hz1 hz2 rfl (by decide) v L.length (srcCells L) hs hown ⟨b, off, none⟩ M.length c (srcCells M) hx (srcCells_length M) (fun j u hu => by rw [add_lit]; exact hcl j u hu) (srcCells_one M) (by unfold maxLen; omega) (by omega) hbase ?_
    intro v' w' h1 h2 _
    refine h v' w' ?_ (grown_below hown h2 hbase)
    unfold OwnS
    rw [List.length_append, srcCells_append]
    exact h1

theorem lies_one {w : World} {b2 : Nat} {nm tx : ByteArray} (g1 : w.cell? ⟨b2, 0, none⟩ = some (.string nm)) (g2 : w.cell? ⟨b2, 1, none⟩ = some (.string tx)) : LiesAt w (some ⟨b2, 0, none⟩) [(nm, tx)] := fun _ => ⟨_, _, rfl, fun j v hj => by
  match j with
  | 0 => simp [srcCells] at hj; subst hj; exact g1
  | 1 => simp [srcCells] at hj; subst hj; exact g2
  | j + 2 => simp [srcCells] at hj⟩

theorem SrcIs.capNone {w : World} {n cap : Nat} {L : List Src} (h : SrcIs w (.slice none n cap) L) (hc : cap = 0) : L = [] := by
  obtain ⟨h1, h2, _, _⟩ := h.lies
  exact List.eq_nil_of_length_eq_zero (by omega)

set_option maxHeartbeats 400000 in
/-- recompileref01.Copy: a list that shares nothing -/
theorem copy_any (p : Option Addr) (n cap : Nat) (L : List Src) (w : World) (hl : SrcIs w (.slice p n cap) L) (hsz : n ≤ 900000000) (hp : p = none → cap = 0) :
    Calls Try.prog 64 #[.slice p n cap] w (ListOf w L) := by
  obtain ⟨hn, h2, h3, h4⟩ := hl.liesAt
  have Hn := Lib.hid hn
  have H4 := Lib.hid h4
  have HP := Lib.hid hp
  have HO := Lib.hid (OwnS.isNil w w.heap.size)
  have HL : Hid (([] : List Src).length + L.length ≤ 1800000000) := by show _ ≤ _; simp; omega
  clear hn h4 hp hl
  go_enter Try.func64, Try.ntmps64
  go_wp2_with (at_builtin; go_must (refine wpList_appendS (o := ⟨some 4, _, _, _, _, _⟩) rfl (.const (.slice none 0 0)) (.tmp 3) rfl w.heap.size _ [] rfl HO.out _ _ _ L rfl Hn.out H4.out HP.out HL.out (Nat.le_refl _) ?_; intro v' w' hown hb))
  go_ret
  exact ⟨_, rfl, by simpa using hown.srcs, hb⟩

/-- recompileref01.Find -/
theorem refFind_any (p : Option Addr) (n cap : Nat) (L : List Src) (nm : ByteArray) (w : World) (hc : n ≤ 4611686018427387904) (hl : SrcIs w (.slice p n cap) L) :
    Calls Try.prog 20 #[.slice p n cap, .string nm] w fun e w' => e = .returned (.tuple #[.string (findT L nm), .bool (findB L nm)]) ∧ w = w' := by
  obtain ⟨hn, hc1, hc2, hlies⟩ := hl.lies
  have Hn := Lib.hid hn
  clear hn hl
  have hidx : ∀ j, j < L.length → isNamed nm (L.getD j empty2) = true → noneTo (isNamed nm) L j → findT L nm = (L.getD j empty2).2 ∧ findB L nm = true := by
    intro j hj ht hg
    have e := posOf_hit (isNamed nm) L j hj ht hg
    unfold posOf at e
    by_cases hk : L.findIdx (isNamed nm) < L.length
    · rw [if_pos hk] at e
      have ek : L.findIdx (isNamed nm) = j := by omega
      unfold findT findB
      rw [ek, if_pos hj]
      exact ⟨rfl, decide_eq_true hj⟩
    · rw [if_neg hk] at e; omega
  have hnone : noneTo (isNamed nm) L L.length → findT L nm = ⟨#[]⟩ ∧ findB L nm = false := by
    intro hg
    have e := posOf_none (isNamed nm) L hg
    unfold posOf at e
    by_cases hk : L.findIdx (isNamed nm) < L.length
    · rw [if_pos hk] at e; omega
    · unfold findT findB
      rw [if_neg hk]
      exact ⟨rfl, decide_eq_false hk⟩
  have HI := Lib.hid hidx
  have HN := Lib.hid hnone
  clear hidx hnone
  go_enter Try.func20, Try.ntmps20
  go_wp2
  go_loop [6] (fun i => ∃ j : Nat, j ≤ n ∧ i = .int .i64 j ∧ Hid (noneTo (isNamed nm) L j)) (fun i => n - (intOf i).toNat)
  case atStart => exact ⟨0, Nat.zero_le _, rfl, fun i hi => absurd hi (by omega)⟩
  case round =>
    obtain ⟨j, hj, rfl, hg⟩ := hrel
    by_cases hlt : j < n
    · obtain ⟨b, off, rfl, hcells⟩ := hlies (by omega)
      have hjl : j < L.length := by rw [← Hn.out]; exact hlt
      have c0 := hcells.name j hjl
      have c1 := hcells.text j hjl
      have hstep := @noneTo_step (isNamed nm) L j hg.out
      have hit := HI.out j hjl
      generalize L.getD j empty2 = x at *
      obtain ⟨na, ta⟩ := x
      have Hlies := Lib.hid hlies
      have Hcells := Lib.hid hcells
      by_cases ht : (na.toList == nm.toList) = true
      · have HT := Lib.hid (hit ht hg.out)
        clear hlies hcells hstep hit hjl
        go_wp2
        go_ret2
        exact ⟨by rw [HT.out.1, HT.out.2]; rfl, rfl⟩
      · have ht' : (na.toList == nm.toList) = false := by simpa using ht
        have hg' : Hid (noneTo (isNamed nm) L (j + 1)) := hstep ht'
        clear hlies hcells hstep hit hjl ht
        go_wp2
        go_round
        case rel => exact ⟨j + 1, by omega, by go_num, hg'⟩
        case measure => simp [intOf]; omega
    · have hje : j = n := by omega
      have HT := Lib.hid (HN.out (by rw [← Hn.out, ← hje]; exact hg.out))
      clear hje
      go_wp2
      go_ret2
      exact ⟨by rw [HT.out.1, HT.out.2]; rfl, rfl⟩
end Go.Proofs.Ytflcpcefjliijaa
