/-
  CONTRACTS: the throws of the dice: they end, and give a number that is asked for.
-/
import Derived.Test.YtheigpiffdabnaaGreatZA1
import Derived.Laws.CopyRow
import Derived.Laws.IdiomCopy
import Derived.Laws.CopyOwn
import Derived.Tactics
import Derived.Below
import Derived.Deep.RegionLaw
import Derived.Test.YtheigpiffdabnaaGreatChecked
import Derived.WalkKit
import Derived.WalkSpells
import Derived.WalkLawsBesides
import Derived.Deep.QuietTactic
import Derived.BigQuiet
import Derived.Handy
import Derived.Lib.Hide
import Derived.Laws.AppendOwnNone
import Derived.Test.YtheigpiffdabnaaGreatZB0
set_option linter.unusedVariables false
namespace Go.Proofs.YtheigpiffdabnaaGreat
open Go Go.RowKit
set_option maxHeartbeats 400000 in
/-- (*Dice).Next -/
theorem next_any (d : Dice) (m : Nat) (w : World) (hd : DiceAt d w) (h1 : 1 ≤ m) (h2 : m ≤ 1000000) :
  Calls Tryz.prog 12 #[.pointer (some ⟨d.D, 0, none⟩), .int .i64 (m : Int)] w fun e w' => ∃ k : Nat, k < m ∧ e = .returned (.int .i64 (k : Int)) ∧ Thrown d w w' ∧ (0 < k → atOf d.D w < atOf d.D w') := by
 have c0 := hd.row
 have c1 := hd.at_
 have hle := hd.le
 have hfew := hd.few
 by_cases hlt : atOf d.D w < d.n
 ·obtain ⟨b, o, hp, x, hx1, hx2, hx⟩ := hd.rolls _ hlt
  have hbD := hd.away b o hp
  obtain ⟨k, hmod1, hk0, hkm⟩ := mod_any x (m : Int) (by omega) (by omega) hx1 hx2
  have hmod : ∀ w1 : World, Calls Tryz.prog 9 #[.int .i64 x, .int .i64 (m : Int)] w1 fun e w2 => e = .returned (.int .i64 k) ∧ w2 = w1 := fun w1 => (hmod1 w1).mono fun _ _ h => ⟨h.1, h.2.symm⟩
  clear hmod1
  obtain ⟨y, rfl⟩ : ∃ y : Nat, k = (y : Int) := ⟨k.toNat, by omega⟩
  have TH : ∀ m1 m2, Thrown d w (((w.drewN m1).setCell ⟨d.D, 1, none⟩ (.int .i64 (((atOf d.D w : Nat) : Int) + 1))).drewN m2) ∧ atOf d.D (((w.drewN m1).setCell ⟨d.D, 1, none⟩ (.int .i64 (((atOf d.D w : Nat) : Int) + 1))).drewN m2) = atOf d.D w + 1 := by
   intro m1 m2
   have h := thrown_set (thrown_drewN hd m1).good hlt m2
   exact ⟨(thrown_drewN hd m1).trans h.1, h.2⟩
  have HT := Lib.hid TH
  clear TH
  have e1 : IntKind.i64.wrap (((atOf d.D w : Nat) : Int) + 1) = ((atOf d.D w : Nat) : Int) + 1 := IntWalk.i64_in _ (by omega)
  have e2 : IntKind.i64.wrap (((atOf d.D w : Nat) : Int) + 1 - 1) = ((atOf d.D w : Nat) : Int) := by rw [IntWalk.i64_in _ (by omega)]; omega
  have e3 : IntKind.i64.wrap ((atOf d.D w : Nat) : Int) = ((atOf d.D w : Nat) : Int) := IntWalk.i64_in _ (by omega)
  have hlt' : ((atOf d.D w : Nat) : Int) < (d.n : Int) := by omega
  have hw1 := hd.warm
  have HK := Lib.hid hkm
  clear hkm
  obtain ⟨D, p, n, cap⟩ := d
  simp only at *
  subst hp
  generalize hg : atOf D w = j at *
  have HG := Lib.hid hg
  clear hg
  have ne1 : (⟨D, 1, none⟩ : Addr) ≠ ⟨b, o + j, none⟩ := by intro h; injection h with h _ _; exact hbD h.symm
  have ne2 : (⟨D, 1, none⟩ : Addr) ≠ ⟨D, 0, none⟩ := by intro h; injection h with _ h _; omega
  go_enter Tryz.func12, Tryz.ntmps12
  go_wp2_with fail
  go_quiet (fail)
  go_wp2_with fail
  go_quiet ((go_at_call 9; exact Calls.quiet_of_same (hmod _)))
  go_wp2_with fail
  go_ret
  exact ⟨y, by have := HK.out; omega, rfl, (HT.out _ _).1, fun _ => by rw [(HT.out _ _).2]; have := HG.out; omega⟩
 ·have hge : ¬ ((atOf d.D w : Nat) : Int) < (d.n : Int) := by omega
  have TH := Lib.hid (fun m => thrown_drewN hd m)
  obtain ⟨D, p, n, cap⟩ := d
  simp only at *
  generalize atOf D w = k at *
  go_enter Tryz.func12, Tryz.ntmps12
  go_wp2_with fail
  go_quiet (fail)
  go_wp2_with fail
  go_ret
  exact ⟨0, by omega, rfl, TH.out _, by omega⟩
/-- (*Dice).One -/
theorem one_any (d : Dice) (m : Nat) (w : World) (hd : DiceAt d w) (h1 : 1 ≤ m) (h2 : m ≤ 1000000) :
  Calls Tryz.prog 25 #[.pointer (some ⟨d.D, 0, none⟩), .int .i64 (m : Int)] w fun e w' => ∃ k : Bool, e = .returned (.bool k) ∧ Thrown d w w' := by
 have e1 : IntKind.i64.wrap ((m : Int) - 1) = (m : Int) - 1 := IntWalk.i64_in _ (by omega)
 have HD := Lib.hid hd
 clear hd
 go_enter Tryz.func25, Tryz.ntmps25
 go_wp2_with (go_at_call 12; refine (next_any d m _ HD.out h1 h2).mono ?_; rintro e w1 ⟨k, hk, rfl, ht, -⟩; have HT := Lib.hid ht; clear ht)
 go_ret
 exact ⟨_, rfl, HT.out⟩
/-- strings in a row, each of at most N bytes -/
def Shorts (N : Nat) (w : World) (p : Option Addr) (m : Nat) : Prop :=
 ∀ i, i < m → ∃ b o, ∃ s : ByteArray, p = some ⟨b, o, none⟩ ∧ w.cell? ⟨b, o + i, none⟩ = some (.string s) ∧ s.size ≤ N
theorem Shorts.keep {N : Nat} {M : Addr → Prop} {w w' : World} {p : Option Addr} {n : Nat} (h : Shorts N w p n) (hb : But M w w') (hm : ∀ b o i, p = some ⟨b, o, none⟩ → ¬ M ⟨b, i, none⟩) : Shorts N w' p n := by
 intro i hi
 obtain ⟨b, o, s, hp, hc, hs⟩ := h i hi
 exact ⟨b, o, s, hp, hb.keep hc (hm b o _ hp), hs⟩
theorem Shorts.thrown {N : Nat} {d : Dice} {w w' : World} {p : Option Addr} {n : Nat} (h : Shorts N w p n) (ht : Thrown d w w') (hp : ∀ b o, p = some ⟨b, o, none⟩ → b ≠ d.D) : Shorts N w' p n :=
 h.keep ht.but (fun b o i e q => by unfold isAt at q; injection q with q1 _ _; exact hp b o e q1)
/-- strings in a row, each with φ -/
def Strs (φ : ByteArray → Prop) (w : World) (p : Option Addr) (m : Nat) : Prop :=
 ∀ i, i < m → ∃ b o, ∃ s : ByteArray, p = some ⟨b, o, none⟩ ∧ w.cell? ⟨b, o + i, none⟩ = some (.string s) ∧ φ s
theorem Strs.keep {φ : ByteArray → Prop} {M : Addr → Prop} {w w' : World} {p : Option Addr} {n : Nat} (h : Strs φ w p n) (hb : But M w w') (hm : ∀ b o i, p = some ⟨b, o, none⟩ → ¬ M ⟨b, i, none⟩) : Strs φ w' p n := by
 intro i hi
 obtain ⟨b, o, s, hp, hc, hs⟩ := h i hi
 exact ⟨b, o, s, hp, hb.keep hc (hm b o _ hp), hs⟩
theorem Strs.thrown {φ : ByteArray → Prop} {d : Dice} {w w' : World} {p : Option Addr} {n : Nat} (h : Strs φ w p n) (ht : Thrown d w w') (hp : ∀ b o, p = some ⟨b, o, none⟩ → b ≠ d.D) : Strs φ w' p n :=
 h.keep ht.but (fun b o i e q => by unfold isAt at q; injection q with q1 _ _; exact hp b o e q1)
theorem Strs.mono {φ ψ : ByteArray → Prop} {w : World} {p : Option Addr} {n : Nat} (h : Strs φ w p n) (hm : ∀ s, φ s → ψ s) : Strs ψ w p n := by
 intro i hi
 obtain ⟨b, o, s, hp, hc, hs⟩ := h i hi
 exact ⟨b, o, s, hp, hc, hm s hs⟩
/-- (*Dice).Of, of strings with φ -/
theorem ofS_any (φ : ByteArray → Prop) (d : Dice) (m cap b o : Nat) (w : World) (hd : DiceAt d w) (h1 : 1 ≤ m) (h2 : m ≤ 1000000) (hs : Strs φ w (some ⟨b, o, none⟩) m) (hb : b ≠ d.D) :
  Calls Tryz.prog 13 #[.pointer (some ⟨d.D, 0, none⟩), .slice (some ⟨b, o, none⟩) m cap] w fun e w' => ∃ s : ByteArray, φ s ∧ e = .returned (.string s) ∧ Thrown d w w' := by
 have HD := Lib.hid hd
 have HS := Lib.hid hs
 clear hd hs
 go_enter Tryz.func13, Tryz.ntmps13
 go_wp2_with (go_at_call 12; refine (next_any d m _ HD.out h1 h2).mono ?_; rintro e w1 ⟨k, hk, rfl, ht, -⟩; obtain ⟨b', o', s, hp, hc, hn⟩ := (HS.out.thrown ht (fun x y e => by injection e with e; injection e with e _ _; omega)) k hk; injection hp with hp; injection hp with hp1 hp2 _; subst hp1; subst hp2; have HT := Lib.hid ht; have HN := Lib.hid hn; clear ht hn)
 go_ret
 exact ⟨s, HN.out, rfl, HT.out⟩
end Go.Proofs.YtheigpiffdabnaaGreat
namespace Go.Proofs.YtheigpiffdabnaaGreat
open Go Go.RowKit
end Go.Proofs.YtheigpiffdabnaaGreat
namespace Go.Proofs.YtheigpiffdabnaaGreat
open Go.RowKit
abbrev Src := ByteArray × ByteArray
/-- the cells that a list of modules takes -/
def srcCells (L : List Src) : List Value := L.flatMap fun x => [.string x.1, .string x.2]
theorem srcCells_length (L : List Src) : (srcCells L).length = L.length * 2 := by
 induction L with
 | nil => rfl
 | cons x L ih => simp [srcCells] at ih ⊢; omega
theorem srcCells_append (L M : List Src) : srcCells (L ++ M) = srcCells L ++ srcCells M := by simp [srcCells]
theorem srcCells_name (L : List Src) (i : Nat) (h : i < L.length) : (srcCells L)[2 * i]? = some (.string L[i].1) := by
 induction L generalizing i with
 | nil => simp at h
 | cons x L ih =>
  cases i with
  | zero => simp [srcCells]
  | succ i =>
   have := ih i (by simpa using h)
   rw [show 2 * (i + 1) = 2 * i + 2 by omega]
   simpa [srcCells] using this
theorem srcCells_text (L : List Src) (i : Nat) (h : i < L.length) : (srcCells L)[2 * i + 1]? = some (.string L[i].2) := by
 induction L generalizing i with
 | nil => simp at h
 | cons x L ih =>
  cases i with
  | zero => simp [srcCells]
  | succ i =>
   have := ih i (by simpa using h)
   rw [show 2 * (i + 1) + 1 = (2 * i + 1) + 2 by omega]
   simpa [srcCells] using this
theorem srcCells_one (L : List Src) : ∀ v ∈ srcCells L, v.oneCell' = true := by
 intro v hv
 simp [srcCells] at hv
 obtain ⟨a, b, _, h | h⟩ := hv <;> subst h <;> rfl
/-- v is a slice that reads as the modules L in the world w -/
def SrcIs (w : World) (v : Value) (L : List Src) : Prop :=
 ∃ p cap, v = .slice p L.length cap ∧ L.length ≤ cap ∧ cap ≤ maxLen ∧ (0 < L.length → ∃ b off, p = some ⟨b, off, none⟩ ∧ CellsAt w b off (srcCells L))
theorem SrcIs.isNil (w : World) : SrcIs w (.slice none 0 0) [] := ⟨_, _, rfl, Nat.le_refl _, Nat.zero_le _, fun h => absurd h (by simp)⟩
theorem SrcIs.below {w w' : World} {v : Value} {L : List Src} (h : SrcIs w v L) (hb : Below w.heap.size w w') : SrcIs w' v L := by
 obtain ⟨p, cap, h1, h2, h3, h4⟩ := h
 exact ⟨p, cap, h1, h2, h3, fun h0 => by obtain ⟨b, off, e, hc⟩ := h4 h0; exact ⟨b, off, e, hc.below hb⟩⟩
theorem info24 : (Tryz.prog.info? 26).map (fun i => (i.zero, i.size, i.bytes)) = some (some (.agg #[.string ⟨#[]⟩, .string ⟨#[]⟩]), 2, 32) := by kernel_rfl
theorem srcCells_take (L : List Src) (k : Nat) : srcCells (L.take k) = (srcCells L).take (2 * k) := by
 induction L generalizing k with
 | nil => simp [srcCells]
 | cons x L ih =>
  cases k with
  | zero => simp [srcCells]
  | succ k =>
   have := ih k
   rw [show 2 * (k + 1) = 2 * k + 2 by omega]
   simp [srcCells] at this ⊢
   exact this
theorem srcCells_drop (L : List Src) (k : Nat) : srcCells (L.drop k) = (srcCells L).drop (2 * k) := by
 induction L generalizing k with
 | nil => simp [srcCells]
 | cons x L ih =>
  cases k with
  | zero => simp [srcCells]
  | succ k =>
   have := ih k
   rw [show 2 * (k + 1) = 2 * k + 2 by omega]
   simp [srcCells] at this ⊢
   exact this
theorem CellsAt.take {w : World} {b off : Nat} {L : List Src} (h : CellsAt w b off (srcCells L)) (k : Nat) : CellsAt w b off (srcCells (L.take k)) := by
 intro j v hv
 rw [srcCells_take, List.getElem?_take] at hv
 split at hv
 ·exact h j v hv
 ·cases hv
theorem CellsAt.drop {w : World} {b off : Nat} {L : List Src} (h : CellsAt w b off (srcCells L)) (k : Nat) : CellsAt w b (off + 2 * k) (srcCells (L.drop k)) := by
 intro j v hv
 rw [srcCells_drop, List.getElem?_drop] at hv
 have := h (2 * k + j) v hv
 rwa [show off + (2 * k + j) = off + 2 * k + j by omega] at this
def empty2 : Src := (ByteArray.empty, ByteArray.empty)
theorem CellsAt.name {w : World} {b off : Nat} {L : List Src} (h : CellsAt w b off (srcCells L)) (j : Nat) (hj : j < L.length) : w.cell? ⟨b, off + j * 2, none⟩ = some (.string (L.getD j empty2).1) := by
 have := h _ _ (srcCells_name L j hj)
 rw [Nat.mul_comm] at this
 simpa [List.getD, List.getElem?_eq_getElem hj] using this
theorem CellsAt.text {w : World} {b off : Nat} {L : List Src} (h : CellsAt w b off (srcCells L)) (j : Nat) (hj : j < L.length) : w.cell? ⟨b, off + j * 2 + 1, none⟩ = some (.string (L.getD j empty2).2) := by
 have := h _ _ (srcCells_text L j hj)
 rw [Nat.mul_comm] at this
 simpa [List.getD, List.getElem?_eq_getElem hj, Nat.add_assoc] using this
/-- a slice that has an element lies somewhere -/
theorem SrcIs.lies {w : World} {p : Option Addr} {n cap : Nat} {L : List Src} (h : SrcIs w (.slice p n cap) L) : n = L.length ∧ n ≤ cap ∧ cap ≤ maxLen ∧ (0 < n → ∃ b off, p = some ⟨b, off, none⟩ ∧ CellsAt w b off (srcCells L)) := by
 obtain ⟨p', cap', e, h1, h2, h3⟩ := h
 simp only [Value.slice.injEq] at e
 obtain ⟨rfl, rfl, rfl⟩ := e
 exact ⟨rfl, h1, h2, h3⟩
/-- a list of modules whose strings fit -/
def Fits (L : List Src) : Prop := ∀ x ∈ L, x.1.size ≤ maxLen ∧ x.2.size ≤ maxLen
theorem Fits.at {L : List Src} (h : Fits L) (j : Nat) (hj : j < L.length) : (L.getD j empty2).1.size ≤ maxLen ∧ (L.getD j empty2).2.size ≤ maxLen := by
 have e : L.getD j empty2 = L[j] := by simp [List.getD, List.getElem?_eq_getElem hj]
 rw [e]
 exact h _ (List.getElem_mem hj)
end Go.Proofs.YtheigpiffdabnaaGreat
namespace Go.Proofs.YtheigpiffdabnaaGreat
open Go.RowKit
/-- where a slice of modules lies, if it has any -/
def LiesAt (w : World) (p : Option Addr) (L : List Src) : Prop := 0 < L.length → ∃ b off, p = some ⟨b, off, none⟩ ∧ CellsAt w b off (srcCells L)
theorem SrcIs.liesAt {w : World} {p : Option Addr} {n cap : Nat} {L : List Src} (h : SrcIs w (.slice p n cap) L) : n = L.length ∧ n ≤ cap ∧ cap ≤ maxLen ∧ LiesAt w p L := by
 obtain ⟨h1, h2, h3, h4⟩ := h.lies
 subst h1
 exact ⟨rfl, h2, h3, h4⟩
/-- a slice of the call's own that reads as the modules L -/
def OwnS (w : World) (base : Nat) (v : Value) (L : List Src) : Prop := w.ownsRow base 26 2 v L.length (srcCells L)
theorem OwnS.srcs {w : World} {base : Nat} {v : Value} {L : List Src} (h : OwnS w base v L) : SrcIs w v L := by
 obtain ⟨h1, h2 | ⟨g, cap, cur, e, hb, hg, hn, hm, hs, ht⟩⟩ := h
 ·obtain ⟨e, h0⟩ := h2
  have : L = [] := List.eq_nil_of_length_eq_zero h0
  subst this; subst e
  exact SrcIs.isNil w
 ·subst e
  refine ⟨_, cap, rfl, hn, hm, fun _ => ⟨g, 0, rfl, ?_⟩⟩
  intro j v hv
  rw [cell_of_row w g (0 + j) cur _ (0, 0) hg]
  rw [← ht, List.getElem?_take] at hv
  split at hv
  ·simpa using hv
  ·cases hv
theorem OwnS.isNil (w : World) (base : Nat) : OwnS w base (.slice none 0 0) [] := World.ownsRow_nil w base _ _
theorem OwnS.alloc {w : World} {base : Nat} {v : Value} {L : List Src} (h : OwnS w base v L) (o : Obj) : OwnS (w.alloc o) base v L := World.ownsRow.alloc h o
theorem grown_below {w w' : World} {base : Nat} {v : Value} {L : List Src} (h : OwnS w base v L) (hg : w.grownBy w' v.ownBlock) (hb : base ≤ w.heap.size) : Below base w w' :=
 (Below.refl base w).grown hg hb (fun k hk => (World.ownsRow.lt h k hk).1)
theorem wpList_appendS {w : World} {ops : Array Oper} {rest : List Oper} {o : Oper} {a : Act} {Q : Exit → Act → World → Prop} (hgd : o.guard = none) (s x : Operand)
  (ho : o.op = .call { callee := .builtin .append, args := #[s, x], argTypes := #[27, 27] })
  (base : Nat) (v : Value) (L : List Src) (hs : a.eval s = v) (hown : OwnS w base v L) (p : Option Addr) (m c : Nat) (M : List Src) (hx : a.eval x = .slice p m c) (hM : m = M.length) (hl : LiesAt w p M) (hp : p = none → c = 0)
  (hL : L.length + M.length ≤ 1800000000) (hbase : base ≤ w.heap.size)
  (h : ∀ v' w', OwnS w' base v' (L ++ M) → Below base w w' → wpList Tryz.prog ops Q rest (a.put o.dst v') w') : wpList Tryz.prog ops Q (o :: rest) a w := by
 obtain ⟨i0, hi, hz0, hz1, hz2⟩ := info_parts info24
 subst hM
 by_cases h0 : M = []
 ·subst h0
  cases p with
  | none =>
   have hc0 := hp rfl
   subst hc0
   exact wpList_append_own_none hgd s x _ ho base 26 i0 2 Tryz.underlying27 hi v L.length (srcCells L) hs hown hx (h v w (by simpa using hown) (Below.refl _ _))
  | some ad =>
   refine wpList_append_own w hgd s x 27 ho base 26 i0 _ 2 32 Tryz.underlying27 hi hz0 hz1 hz2 rfl (by decide) v L.length (srcCells L) hs hown ad 0 c [] hx rfl (fun j u hu => by simp at hu) (fun u hu => by simp at hu) (by unfold maxLen; simp at hL; omega) (by simp at hL; omega) hbase ?_
   intro v' w' h1 h2 _
   exact h v' w' (by simpa [OwnS] using h1) (grown_below hown h2 hbase)
 ·obtain ⟨b, off, rfl, hcl⟩ := hl (List.length_pos_iff.2 h0)
  refine wpList_append_own w hgd s x 27 ho base 26 i0 _ 2 32 Tryz.underlying27 hi hz0 hz1 hz2 rfl (by decide) v L.length (srcCells L) hs hown ⟨b, off, none⟩ M.length c (srcCells M) hx (srcCells_length M) (fun j u hu => by rw [add_lit]; exact hcl j u hu) (srcCells_one M) (by unfold maxLen; omega) (by omega) hbase ?_
  intro v' w' h1 h2 _
  refine h v' w' ?_ (grown_below hown h2 hbase)
  unfold OwnS
  rw [List.length_append, srcCells_append]
  exact h1
theorem lies_one {w : World} {b2 : Nat} {nm tx : ByteArray} (g1 : w.cell? ⟨b2, 0, none⟩ = some (.string nm)) (g2 : w.cell? ⟨b2, 1, none⟩ = some (.string tx)) : LiesAt w (some ⟨b2, 0, none⟩) [(nm, tx)] := fun _ => ⟨_, _, rfl, fun j v hj => by
 match j with
 | 0 => simp [srcCells] at hj; subst hj; exact g1
 | 1 => simp [srcCells] at hj; subst hj; exact g2
 | j + 2 => simp [srcCells] at hj⟩
end Go.Proofs.YtheigpiffdabnaaGreat
namespace Go.Proofs.YtheigpiffdabnaaGreat
open Go Go.RowKit
/-- string([]byte{c}) -/
theorem byte_text (w : World) (c : Nat) (hc : c < 256) : (convert 63 9 (.slice (some ⟨w.heap.size, 0, none⟩) 1 1)).run Tryz.prog (w.alloc (.cells #[.int .u8 (c : Int)] 5)) = .ok (.string ⟨#[UInt8.ofNat c]⟩) (w.alloc (.cells #[.int .u8 (c : Int)] 5)) := by
 have h := run_convert_bytes_back (P := Tryz.prog) (w.alloc (.cells #[.int .u8 (c : Int)] 5)) 63 9 5 ⟨w.heap.size, 0, none⟩ 1 [UInt8.ofNat c] Tryz.underlying63 Tryz.underlying5 Tryz.underlying9 (by
  intro j hj
  simp at hj
  subst hj
  have e : (UInt8.ofNat c).toNat = c := by simp; omega
  rw [add_lit, cell_of_row _ w.heap.size (0 + 0) _ 5 (0, 0) (heap_alloc_new w _)]
  simp
  omega)
 simpa using h
/-- a digit -/
theorem oneDigit_any (n : Nat) (w : World) (h : n < 10) :
  Calls Tryz.prog 23 #[.int .i64 (n : Int)] w fun e w' => ∃ s : ByteArray, (s.size ≤ 1 ∧ IsDg s) ∧ e = .returned (.string s) ∧ Below w.heap.size w w' := by
 have hlt : (n : Int) < 10 := by omega
 have hnn : ¬ (n : Int) < 0 := by omega
 have e1 : IntKind.i64.wrap (48 + (n : Int)) = 48 + (n : Int) := IntWalk.i64_in _ (by omega)
 have e2 : IntKind.u8.wrap (48 + (n : Int)) = 48 + (n : Int) := IntWalk.u8_in _ (by omega)
 have hcv := byte_text w (48 + n) (by omega)
 have e3 : ((48 + n : Nat) : Int) = 48 + (n : Int) := by omega
 rw [e3] at hcv
 clear e3
 have HDG : Hid (IsDg ⟨#[UInt8.ofNat (48 + n)]⟩) := IsDg.one h
 generalize UInt8.ofNat (48 + n) = c at *
 have HS : Hid (Below w.heap.size w (w.alloc (.cells #[.int .u8 (48 + (n : Int))] 5))) := (Below.refl _ _).alloc (Nat.le_refl _) _
 go_enter Tryz.func23, Tryz.ntmps23
 go_wp2_with fail
 go_ret
 refine ⟨_, ?_, rfl, HS.out⟩
 exact ⟨Nat.le_refl 1, HDG.out⟩
/-- one digit more -/
theorem digits_step (B c : Nat) (hB : 10 ≤ B) (hB2 : B ≤ 100000000) (hc : 1 ≤ c) (hc2 : c ≤ 1000) (ih : ∀ (n : Nat) (w : World), n < B →
      Calls Tryz.prog 23 #[.int .i64 (n : Int)] w fun e w' => ∃ s : ByteArray, (s.size ≤ c ∧ IsDg s) ∧ e = .returned (.string s) ∧ Below w.heap.size w w')
  (n : Nat) (w : World) (h : n < 10 * B) :
  Calls Tryz.prog 23 #[.int .i64 (n : Int)] w fun e w' => ∃ s : ByteArray, (s.size ≤ c + 1 ∧ IsDg s) ∧ e = .returned (.string s) ∧ Below w.heap.size w w' := by
 by_cases h10 : n < 10
 ·exact (oneDigit_any n w h10).mono fun e w' ⟨s, h1, h2, h3⟩ => ⟨s, ⟨by have := h1.1; omega, h1.2⟩, h2, h3⟩
 ·have hnn : ¬ (n : Int) < 0 := by omega
  have hge : ¬ (n : Int) < 10 := by omega
  have q1 : n / 10 < B := by omega
  have q2 : n % 10 < 10 := by omega
  have CA := fun w => ih (n / 10) w q1
  have CB := fun w => oneDigit_any (n % 10) w q2
  have e0 : ((n / 10 : Nat) : Int) = (n : Int) / 10 := by omega
  have e1 : ((n % 10 : Nat) : Int) = (n : Int) % 10 := by omega
  rw [e0] at CA
  rw [e1] at CB
  have HA := Lib.hid CA
  have HB := Lib.hid CB
  clear CA CB e0 e1 ih q1 q2
  go_enter Tryz.func23, Tryz.ntmps23
  go_wp2_with fail
  refine (HA.out _).mono ?_
  rintro e w1 ⟨s1, ⟨hs1, hd1⟩, rfl, hb1⟩
  have H1 := Lib.hid hb1
  clear hb1
  go_wp2_with fail
  refine (HB.out _).mono ?_
  rintro e w2 ⟨s2, ⟨hs2, hd2⟩, rfl, hb2⟩
  have H2 := Lib.hid hb2
  clear hb2
  go_wp2_with fail
  go_ret
  exact ⟨_, ⟨by rw [ByteArray.size_append]; omega, hd1.app hd2⟩, rfl, H1.out.trans (H2.out.mono H1.out.size)⟩
/-- numbers below 1000 -/
theorem digits_any (n : Nat) (w : World) (h : n < 1000) :
  Calls Tryz.prog 23 #[.int .i64 (n : Int)] w fun e w' => ∃ s : ByteArray, (s.size ≤ 3 ∧ IsDg s) ∧ e = .returned (.string s) ∧ Below w.heap.size w w' :=
 digits_step 100 2 (by omega) (by omega) (by omega) (by omega) (fun n w h => digits_step 10 1 (by omega) (by omega) (by omega) (by omega) oneDigit_any n w h) n w h
/-- the name of a module -/
theorem letter_any (n : Nat) (w : World) (h : n < 26) :
  Calls Tryz.prog 14 #[.int .i64 (n : Int)] w fun e w' => e = .returned (.string ⟨#[UInt8.ofNat (97 + n)]⟩) ∧ Below w.heap.size w w' := by
 have e1 : IntKind.i64.wrap (97 + (n : Int)) = 97 + (n : Int) := IntWalk.i64_in _ (by omega)
 have e2 : IntKind.u8.wrap (97 + (n : Int)) = 97 + (n : Int) := IntWalk.u8_in _ (by omega)
 have hcv := byte_text w (97 + n) (by omega)
 have e3 : ((97 + n : Nat) : Int) = 97 + (n : Int) := by omega
 rw [e3] at hcv
 clear e3
 generalize UInt8.ofNat (97 + n) = c at *
 have HS : Hid (Below w.heap.size w (w.alloc (.cells #[.int .u8 (97 + (n : Int))] 5))) := (Below.refl _ _).alloc (Nat.le_refl _) _
 go_enter Tryz.func14, Tryz.ntmps14
 go_wp2_with fail
 go_ret
 exact ⟨rfl, HS.out⟩
end Go.Proofs.YtheigpiffdabnaaGreat
