/-
  PROVED: for any list of numbers and any two numbers, all functions of layer 1 return what the document's reference returns, of the program that the numbers make, an edit of it, with one of the two numbers in it or with a module twice, and a name; no condition.
-/
import Derived.Test.YtflcpcefjliijaaRows
import Derived.Test.YtflcpcefjliijaaAgree
import Derived.Test.YtflcpcefjliijaaAwake
import Derived.Test.YtflcpcefjliijaaRolls
import Derived.WalkKit
import Derived.ProofKit
import Derived.OpenShut
import Derived.ShutString
import Derived.Lib.SmallJoins
namespace Go.Proofs.Ytflcpcefjliijaa.sourceMade
open Go Go.ChangeShapes Go.WideShapes Go.ChangeAt Go.RowKit
set_option linter.unusedVariables false
set_option linter.unusedSimpArgs false

attribute [local go_sem] tyIs_f tyNum_f tyStr_f

theorem own : ownKnob Try.prog.godebug = none := by kernel_rfl
theorem laidOut : laidOutB Try.prog = true := by kernel_rfl

theorem SrcIs.thrown {d : Dice} {w w' : World} {p : Option Addr} {n cap : Nat} {L : List Src} (h : SrcIs w (.slice p n cap) L) (t : Thrown d w w') (hp : ∀ b o, p = some ⟨b, o, none⟩ → b ≠ d.D) : SrcIs w' (.slice p n cap) L := by
  obtain ⟨hn, h2, h3, h4⟩ := h.lies
  subst hn
  refine ⟨p, cap, rfl, h2, h3, fun h0 => ?_⟩
  obtain ⟨b, off, e, hc⟩ := h4 h0
  exact ⟨b, off, e, fun j v hv => t.but.keep (hc j v hv) (fun q => by unfold isAt at q; injection q with q _ _; exact hp b off e q)⟩

/-- the program, and the edit in its cell -/
structure Sm (d : Dice) (w0 : World) (p : Option Addr) (n cap : Nat) (L : List Src) (xb : Nat) (m : ByteArray) (a c : Int) (tx : ByteArray) (w : World) : Prop where
  dice : DiceAt d w
  own : OwnS w (d.D + 1) (.slice p n cap) L
  lp : ∀ b o, p = some ⟨b, o, none⟩ → d.D < b ∧ b ≠ xb
  e : w.heap[xb]? = some (.cells (edC m a c tx) 31 (0, 0))
  xD : d.D < xb
  base : Below w0.heap.size w0 w
  lo : w0.heap.size ≤ d.D
  row : ∀ b o, d.p = some ⟨b, o, none⟩ → b < d.D
theorem Sm.keep {d : Dice} {w0 w w' : World} {p : Option Addr} {n cap : Nat} {L : List Src} {xb : Nat} {m tx : ByteArray} {a c : Int} (h : Sm d w0 p n cap L xb m a c tx w) (t : Thrown d w w') : Sm d w0 p n cap L xb m a c tx w' := by
  have hx := h.xD
  have hb := h.base.size
  have hD := World.block_lt_of_cell? w _ h.dice.at_
  simp only at hD
  exact ⟨t.good, h.own.thrown t (by omega), h.lp, thrown_block t h.e (by omega), h.xD, h.base.trans (t.but.below hb (fun a q => by unfold isAt at q; subst q; exact h.lo)), h.lo, h.row⟩

theorem Sm.set {d : Dice} {w0 w : World} {p : Option Addr} {n cap : Nat} {L : List Src} {xb : Nat} {m tx : ByteArray} {a c a' c' : Int} (h : Sm d w0 p n cap L xb m a c tx w) (i : Nat) (v : Value) (e : (edC m a c tx).setIfInBounds i v = edC m a' c' tx) :
    Sm d w0 p n cap L xb m a' c' tx (w.setCell ⟨xb, i, none⟩ v) := by
  have hx := h.xD
  have hbut : But (fun q => q.block = xb) w (w.setCell ⟨xb, i, none⟩ v) := But.setCell w _ _ rfl
  have hs := h.dice.still hbut (fun b o j e => by have := h.row b o e; show ¬ b = xb; omega) (fun j => by show ¬ d.D = xb; omega)
  refine ⟨hs.1, ?_, h.lp, by rw [← e]; exact heap_setCell_same _ _ _ _ _ _ h.e, hx, h.base.trans (hbut.below h.base.size (fun q hq => by rw [hq]; have := h.lo; omega)), h.lo, h.row⟩
  obtain ⟨h1, h2 | ⟨g, cap', cur, hv, hg, hh, rest⟩⟩ := h.own
  · exact ⟨h1, .inl h2⟩
  · refine ⟨h1, .inr ⟨g, cap', cur, hv, hg, ?_, rest⟩⟩
    injection hv with hp _ _
    rw [Below.heap_setCell _ _ _ _ (by show g ≠ xb; exact (h.lp g 0 hp).2)]
    exact hh
theorem Sm.cells {d : Dice} {w0 w : World} {p : Option Addr} {n cap : Nat} {L : List Src} {xb : Nat} {m tx : ByteArray} {a c : Int} (h : Sm d w0 p n cap L xb m a c tx w) :
    w.cell? ⟨xb, 0, none⟩ = some (.string m) ∧ w.cell? ⟨xb, 1, none⟩ = some (.int .i64 a) ∧ w.cell? ⟨xb, 2, none⟩ = some (.int .i64 c) ∧ w.cell? ⟨xb, 3, none⟩ = some (.string tx) ∧ ∀ i, w.frozen? ⟨xb, i, none⟩ = false :=
  ⟨by rw [Lib.cell_of_heap h.e]; rfl, by rw [Lib.cell_of_heap h.e]; rfl, by rw [Lib.cell_of_heap h.e]; rfl, by rw [Lib.cell_of_heap h.e]; rfl, fun i => Lib.frozen_of_heap h.e i⟩

/-- append of one module: nothing but the list's own block changes -/
theorem wpList_pushS {w : World} {ops : Array Oper} {rest : List Oper} {o : Oper} {act : Act} {Q : Exit → Act → World → Prop} (hgd : o.guard = none) (s x : Operand)
    (ho : o.op = .call { callee := .builtin .append, args := #[s, x], argTypes := #[28, 28] })
    {d : Dice} {w0 : World} {p : Option Addr} {n cap : Nat} {L : List Src} {xb : Nat} {m tx : ByteArray} {a c : Int} (h : Sm d w0 p n cap L xb m a c tx w) (hn : n = L.length) (hn2 : n ≤ 1000) (hs : act.eval s = .slice p n cap)
    (nm t2 : ByteArray) (b2 : Nat) (g1 : w.cell? ⟨b2, 0, none⟩ = some (.string nm)) (g2 : w.cell? ⟨b2, 1, none⟩ = some (.string t2)) (hx : act.eval x = .slice (some ⟨b2, 0, none⟩) 1 1)
    (hk : ∀ q k cap' w', Sm d w0 q k cap' (L ++ [(nm, t2)]) xb m a c tx w' → (q = none → cap' = 0) → k = (L ++ [(nm, t2)]).length → wpList Try.prog ops Q rest (act.put o.dst (.slice q k cap')) w') : wpList Try.prog ops Q (o :: rest) act w := by
  obtain ⟨i0, hi, hz0, hz1, hz2⟩ := info_parts info24
  have hown := h.own
  have hD := World.block_lt_of_cell? w _ h.dice.at_
  simp only at hD
  have hxs := heap_lt h.e
  have hl2 := lies_one g1 g2 (by simp)
  obtain ⟨_, _, hb2, hcl⟩ := hl2
  cases hb2
  subst hn
  refine wpList_append_own w hgd s x 28 ho (d.D + 1) 35 i0 _ 2 32 Try.underlying28 hi hz0 hz1 hz2 rfl (by decide) (.slice p L.length cap) L.length (srcCells L) hs hown ⟨b2, 0, none⟩ 1 1 (srcCells [(nm, t2)]) hx (srcCells_length _) (fun j u hu => by rw [add_lit]; exact hcl j u hu) (srcCells_one _) (by unfold maxLen; omega) (by omega) (by omega) ?_
  intro v' w' h1 h2 _
  have hown2 : OwnS w' (d.D + 1) v' (L ++ [(nm, t2)]) := by
    unfold OwnS
    rw [List.length_append, srcCells_append]
    exact h1
  have hrow : ∀ k, (Value.slice p L.length cap).ownBlock = some k → d.D < k ∧ k ≠ xb := by
    intro k e
    cases p with
    | none => simp [Value.ownBlock] at e
    | some q =>
      obtain ⟨b, o, sp⟩ := q
      simp [Value.ownBlock] at e
      subst e
      obtain ⟨_, ⟨hv, _⟩ | ⟨g, c3, cur, hv, hg, _⟩⟩ := hown
      · cases hv
      · injection hv with hv _ _
        have := h.lp g 0 hv
        injection hv with hv
        injection hv with hv _ _
        subst hv
        exact this
  have hb : ∀ k, k < w.heap.size → (k ≤ d.D ∨ k = xb) → w'.heap[k]? = w.heap[k]? := fun k hk hq => h2.block k hk (fun e => by have := hrow k e.symm; omega)
  have hbel : Below (d.D + 1) w w' := ⟨h2.os, h2.tape, h2.output, h2.size, fun k hk => hb k (by omega) (.inl (by omega))⟩
  have hx2 : w'.heap[xb]? = some (.cells (edC m a c tx) 31 (0, 0)) := by rw [hb xb hxs (.inr rfl)]; exact h.e
  obtain ⟨q, k, cap', rfl, hk2, hqc, hqb⟩ := hown2.open
  refine hk q k cap' w' ⟨dice_belowB h.dice hbel (by omega) (fun b o e => by have := h.row b o e; omega), hown2, fun b o e => ⟨by have := hqb b o e; omega, fun q2 => ?_⟩, hx2, h.xD, h.base.trans (hbel.mono (by have := h.lo; omega)), h.lo, h.row⟩ hqc hk2
  subst q2
  obtain ⟨_, ⟨hv, _⟩ | ⟨g, c3, cur, hv, hg, hh, hr⟩⟩ := hown2
  · cases hv; cases e
  · injection hv with hv _ _
    rw [e] at hv
    injection hv with hv
    injection hv with hv _ _
    subst hv
    rw [hx2] at hh
    cases hh

def LeS (d : Dice) (w w' : World) : Prop := DiceAt d w → Thrown d w w'
theorem LeS.refl (d : Dice) (w : World) : LeS d w w := fun h => Thrown.refl h
theorem LeS.trans (d : Dice) (a b c : World) (h : LeS d a b) (k : LeS d b c) : LeS d a c := fun e => (h e).trans (k (h e).good)
/-- a list of names, new -/
def tyRow8 (d : Dice) : Ty (LeS d) := ⟨{b : Nat // b ≠ d.D}, ⟨⟨d.D + 1, by omega⟩⟩, fun b => .slice (some ⟨b.1, 0, none⟩) 8 8, fun b w => DiceAt d w ∧ Shorts 4 w (some ⟨b.1, 0, none⟩) 8,
  fun x w w' hl h => ⟨(hl h.1).good, h.2.thrown (hl h.1) (fun b o e => by injection e with e; injection e with e _ _; subst e; exact x.2)⟩⟩
theorem tyRow8_f (d : Dice) (b : Nat) (hb : b ≠ d.D) : (tyRow8 d).f ⟨b, hb⟩ = .slice (some ⟨b, 0, none⟩) 8 8 := rfl
theorem tyRow8_p (d : Dice) (b : Nat) (hb : b ≠ d.D) (w : World) : (tyRow8 d).φ ⟨b, hb⟩ w = (DiceAt d w ∧ Shorts 4 w (some ⟨b, 0, none⟩) 8) := rfl
def tyNm (Le : World → World → Prop) (n : Nat) : Ty Le := tyOf Le (α := {s : ByteArray // s.size ≤ n}) ⟨⟨ByteArray.empty, Nat.zero_le _⟩⟩ (fun s => .agg #[.string s.1, .string ⟨#[120]⟩])
theorem tyNm_f (Le : World → World → Prop) (n : Nat) (s : ByteArray) (hs : s.size ≤ n) : (tyNm Le n).f ⟨s, hs⟩ = .agg #[.string s, .string ⟨#[120]⟩] := rfl
theorem fact_at {md : Region.Mode} {o : Oper} {F : Facts} {w : World} (h : leans md o F w) {j : Nat} (hj : (o.after.any fun e => Region.binds md e && (e.on == j)) = true) : F j w := by
  obtain ⟨e, he, h2⟩ := Array.any_eq_true'.1 hj
  simp only [Bool.and_eq_true, beq_iff_eq] at h2
  rw [← h2.2]
  exact h e he h2.1
def namesL : List ByteArray := [⟨#[97]⟩, ⟨#[98]⟩, ⟨#[122]⟩, ⟨#[65, 95, 49]⟩, ⟨#[]⟩, ⟨#[49, 97]⟩, ⟨#[97, 32, 98]⟩, ⟨#[97, 58, 58, 98]⟩]
theorem names_short : ∀ s ∈ namesL, s.size ≤ 4 := by decide
theorem names_row (t : TypeId) (w : World) : Shorts 4 (w.alloc (.cells #[.string ⟨#[97]⟩, .string ⟨#[98]⟩, .string ⟨#[122]⟩, .string ⟨#[65, 95, 49]⟩, .string ⟨#[]⟩, .string ⟨#[49, 97]⟩, .string ⟨#[97, 32, 98]⟩, .string ⟨#[97, 58, 58, 98]⟩] t)) (some ⟨w.heap.size, 0, none⟩) 8 := shorts_row 4 namesL names_short t w
theorem fits_getD {L : List Src} (h : ∀ j, j < L.length → (L.getD j empty2).1.size ≤ 1 ∧ (L.getD j empty2).2.size ≤ 100000) : Fits L := by
  intro x hx
  obtain ⟨j, hj, rfl⟩ := List.getElem_of_mem hx
  have := h j hj
  have e : L.getD j empty2 = L[j] := by simp [List.getD, List.getElem?_eq_getElem hj]
  rw [e] at this
  unfold maxLen
  omega
theorem Prg.fits {d : Dice} {B : Nat} {w0 w' : World} {L : List Src} {v : Value} (h : Prg d B w0 L v w') (hB : B ≤ 100000) : Fits L := by
  refine fits_getD fun j hj => ⟨?_, by have := h.2.1 j hj; omega⟩
  obtain ⟨_, _, ⟨k, h1, h2, h3⟩, _⟩ := h
  have hl : L.length = k := by have := congrArg List.length h3; simpa using this
  have e := congrArg (fun l => l[j]?) h3
  simp only [List.getElem?_map, List.getElem?_eq_getElem hj, Option.map_some, List.getElem?_range (show j < k by omega), Option.some.injEq] at e
  have e2 : L.getD j empty2 = L[j] := by simp [List.getD, List.getElem?_eq_getElem hj]
  rw [e2, e, size_letter]
  exact Nat.le_refl _

set_option maxHeartbeats 4000000 in
set_option maxRecDepth 100000 in
theorem walk (p : Option Addr) (n cap : Nat) (n0 n1 : Int) (w : World) (a1 : -9223372036854775808 ≤ n0) (a2 : n0 ≤ 9223372036854775807) (c1 : -9223372036854775808 ≤ n1) (c2 : n1 ≤ 9223372036854775807) (hn : n ≤ maxLen) (hr : Rolls w p n) (hb : ∀ b o, p = some ⟨b, o, none⟩ → b < w.heap.size) :
    Calls Try.prog 3 #[.slice p n cap, .agg #[.int .i64 n0, .int .i64 n1]] w fun e w' => e = .returned (.bool true) ∧ Below w.heap.size w w' := by
  have HB0 := Lib.hid (below_box w (.cells #[.int .i64 n0, .int .i64 n1] 23))
  have hNB := heap_alloc_new w (.cells #[.int .i64 n0, .int .i64 n1] 23 (0, 0))
  by_cases h1 : 400 < n
  · clear hr hb
    go_enter Try.func3, Try.ntmps3
    go_wp2_with fail
    refine (light_no p n cap _ h1 hn).mono ?_
    rintro e w1 ⟨rfl, rfl⟩
    go_wp2_with fail
    refine (awake_any _).mono ?_
    rintro e w1 ⟨rfl, hb⟩
    have HB := Lib.hid (bnext HB0.out hb)
    clear hb
    go_wp2_with fail
    go_ret
    exact ⟨rfl, HB.out⟩
  · have hr2 : Rolls (w.alloc (.cells #[.int .i64 n0, .int .i64 n1] 23)) p n := by
      intro i hi
      obtain ⟨b, o, e, x, x1, x2, hc⟩ := hr i hi
      exact ⟨b, o, e, x, x1, x2, by rw [HB0.out.cell (p := ⟨b, o + i, none⟩) (hb b o e)]; exact hc⟩
    have hb2 : ∀ b o, p = some ⟨b, o, none⟩ → b < (w.alloc (.cells #[.int .i64 n0, .int .i64 n1] 23)).heap.size := fun b o e => by have := hb b o e; have := HB0.out.size; omega
    have hlt0 : w.heap.size < (w.alloc (.cells #[.int .i64 n0, .int .i64 n1] 23)).heap.size := heap_lt hNB
    have HDW := Lib.hid (rolled (cap := cap) (show n ≤ 400 by omega) hr2 hb2)
    have HNB := Lib.hid hNB
    have HIN : Hid (∀ b o, p = some ⟨b, o, none⟩ → b < (w.alloc (.cells #[.int .i64 n0, .int .i64 n1] 23)).heap.size) := hb2
    have HLT := Lib.hid hlt0
    clear hr hb hr2 hb2 hlt0 hNB
    go_enter Try.func3, Try.ntmps3
    go_wp2_with fail
    generalize hw1 : w.alloc (.cells #[.int .i64 n0, .int .i64 n1] 23) = w1 at *
    refine (light_yes p n cap _ (by omega)).mono ?_
    rintro e w2 ⟨rfl, rfl⟩
    go_wp2_with fail
    refine (roll_any p n cap _).mono ?_
    rintro e w3 ⟨rfl, rfl⟩
    go_wp2_with fail
    generalize hd : (⟨w2.heap.size, p, n, cap⟩ : Dice) = d at *
    have hdD : w2.heap.size = d.D := by rw [← hd]
    rw [hdD]
    have HB3 : Hid (Below d.D w2 (w2.alloc (.cells #[.slice p n cap, .int .i64 0] 63))) := by rw [← hdD]; exact below_box w2 _
    have HLO : Hid (w.heap.size < d.D) := by rw [← hdD]; exact HLT.out
    generalize w2.alloc (.cells #[.slice p n cap, .int .i64 0] 63) = w3 at *
    refine (sources_any d w3 HDW.out.1 (by rw [← hd]; exact HDW.out.2)).mono ?_
    intro e w4 hp
    obtain ⟨L, v, rfl, hprg⟩ := hp.prg
    have hD3 : d.D < w3.heap.size := World.block_lt_of_cell? w3 _ HDW.out.1.at_
    have hrow4 : ∀ b o, d.p = some ⟨b, o, none⟩ → b < w4.heap.size := fun b o e => by have := HDW.out.2 b o (by rw [← hd] at e; exact e); have := hprg.2.2.2.size; omega
    obtain ⟨p1, m1, cap1, rfl, hn1, hpc1, hpb1⟩ := hprg.1.open
    have HPR := Lib.hid hprg
    have HN1 := Lib.hid hn1
    have HPC := Lib.hid hpc1
    have HPB := Lib.hid hpb1
    have HD3 := Lib.hid hD3
    have HR4 := Lib.hid hrow4
    clear hp hprg hn1 hpc1 hpb1 hD3 hrow4
    go_wp2_with fail
    refine (edit_any d p1 m1 cap1 L w4 HPR.out.2.2.2.dice (by have := HPR.out.len; rw [HN1.out]; omega) (by have := HPR.out.len; rw [HN1.out]; omega) HPR.out.1.srcs (fun j hj => by have := HPR.out.2.1 j hj; omega) (fun b o e => by have := HPB.out b o e; have := HD3.out; omega) HR4.out).mono ?_
    rintro e w5 ⟨k2, m, s, tx, a, c, hk2, hg, hac, htx, rfl, ht⟩
    have hl2 : k2 < L.length := by rw [← HN1.out]; exact hk2
    have hsz := HPR.out.2.1 k2 hl2
    rw [hg] at hsz
    simp only at hsz
    have hnb5 : w5.heap[w.heap.size]? = some (.cells #[.int .i64 n0, .int .i64 n1] 23 (0, 0)) := by
      have hlo := HLO.out
      refine thrown_block ht ?_ (by omega)
      rw [HPR.out.2.2.2.fr.block _ (by have := HD3.out; omega) (by have := HD3.out; omega) (by omega), HB3.out.block _ (by omega)]
      exact HNB.out
    have hx5 : d.D < w5.heap.size := World.block_lt_of_cell? w5 _ ht.good.at_
    have hsm : Sm d w p1 m1 cap1 L w5.heap.size m (a : Int) (c : Int) tx (w5.alloc (.cells #[.string m, .int .i64 (a : Int), .int .i64 (c : Int), .string tx] 31)) := by
      have hb6 := below_box w5 (.cells #[.string m, .int .i64 (a : Int), .int .i64 (c : Int), .string tx] 31)
      have ho5 := (HPR.out.1.mono (B' := d.D + 1) (by have := HD3.out; omega)).thrown ht (by omega)
      refine ⟨(thrown_below ht.good hb6).good, ho5.below hb6, fun b o e => ⟨by have := HPB.out b o e; have := HD3.out; omega, fun q => ?_⟩, heap_alloc_new w5 _, hx5, ?_, Nat.le_of_lt HLO.out, fun b o e => ?_⟩
      · subst q
        obtain ⟨_, ⟨hv, _⟩ | ⟨g, c3, cur, hv, hg, hh, hr⟩⟩ := ho5
        · cases hv; cases e
        · injection hv with hv _ _
          rw [e] at hv
          injection hv with hv
          injection hv with hv _ _
          have := heap_lt hh
          omega
      · have q1 : Below w.heap.size w w3 := HB0.out.trans (HB3.out.mono (Nat.le_of_lt HLO.out))
        have q2 := q1.trans (HPR.out.2.2.2.base w.heap.size (Nat.le_of_lt HLO.out) (Nat.le_of_lt HD3.out))
        have q3 := q2.trans (ht.but.below (B := w.heap.size) q2.size (fun q hq => by unfold isAt at hq; subst hq; exact Nat.le_of_lt HLO.out))
        exact q3.trans (hb6.mono q3.size)
      · rw [← hd] at e
        have := HIN.out b o e
        rw [← hdD]
        exact this
    have HS6 := Lib.hid hsm
    have hnb6 : (w5.alloc (.cells #[.string m, .int .i64 (a : Int), .int .i64 (c : Int), .string tx] 31)).heap[w.heap.size]? = some (.cells #[.int .i64 n0, .int .i64 n1] 23 (0, 0)) := by
      rw [(below_box w5 _).block _ (heap_lt hnb5)]; exact hnb5
    have HNB6 := Lib.hid hnb6
    have HFX : Hid (Fits L) := Prg.fits HPR.out (by omega)
    have HN3 : Hid (m1 = L.length ∧ 1 ≤ m1 ∧ m1 ≤ 3) := ⟨HN1.out, by have := HPR.out.len; rw [HN1.out]; omega, by have := HPR.out.len; rw [HN1.out]; omega⟩
    have htx2 : tx.size ≤ 140737488355328 := by omega
    have hms : m.size ≤ maxLen := by
      have := HFX.out.at k2 hl2
      rw [hg] at this
      exact this.1
    have HAC : Hid (a ≤ 100000 ∧ c ≤ 100000) := ⟨by omega, by omega⟩
    have HLOW := Lib.hid (Nat.le_of_lt HLO.out)
    clear ht hg hnb5 hx5 hsm hnb6 HPR HPB HD3 HR4 HN1 hsz hl2 hk2 hac htx HB3 HB0 HNB HLT HIN HDW
    go_wp2_with fail
    generalize hw6 : w5.alloc (.cells #[.string m, .int .i64 (a : Int), .int .i64 (c : Int), .string tx] 31) = w6 at *
    refine (next_any d 5 _ HS6.out.dice (by omega) (by omega)).mono ?_
    rintro e w7 ⟨k, hk, rfl, ht, -⟩
    have HS7 := Lib.hid (HS6.out.keep ht)
    have HNB7 : Hid (w7.heap[w.heap.size]? = some (.cells #[.int .i64 n0, .int .i64 n1] 23 (0, 0))) := thrown_block ht HNB6.out (by have := HLO.out; omega)
    clear ht HS6 HNB6 hw6
    generalize w5.heap.size = xb at *
    have hk5 : k = 0 ∨ k = 1 ∨ k = 2 ∨ (((k : Int) == 0) = false ∧ ((k : Int) == 1) = false ∧ ((k : Int) == 2) = false) := by
      by_cases e0 : k = 0
      · exact .inl e0
      · by_cases e1 : k = 1
        · exact .inr (.inl e1)
        · by_cases e2 : k = 2
          · exact .inr (.inr (.inl e2))
          · exact .inr (.inr (.inr ⟨by rw [beq_eq_false_iff_ne]; omega, by rw [beq_eq_false_iff_ne]; omega, by rw [beq_eq_false_iff_ne]; omega⟩))
    obtain ⟨x0, x1, x2, x3, fr⟩ := HS7.out.cells
    have y0 : w7.cell? ⟨w.heap.size, 0, none⟩ = some (.int .i64 n0) := by rw [Lib.cell_of_heap HNB7.out]; rfl
    have y1 : w7.cell? ⟨w.heap.size, 1, none⟩ = some (.int .i64 n1) := by rw [Lib.cell_of_heap HNB7.out]; rfl
    clear hk HNB7
    rcases hk5 with rfl | rfl | rfl | ⟨k0, k1, k2⟩
    -- the place
    go_wp2_with fail
    have HS : Hid (∃ aa cc : Int, (-9223372036854775808 ≤ aa ∧ aa ≤ 9223372036854775807) ∧ (-9223372036854775808 ≤ cc ∧ cc ≤ 9223372036854775807) ∧ Sm d w p1 m1 cap1 L xb m aa cc tx (w7.setCell ⟨xb, 1, none⟩ (.int .i64 n0))) := ⟨n0, c, ⟨a1, a2⟩, ⟨by omega, by have := HAC.out; omega⟩, HS7.out.set 1 _ rfl⟩
    have HNX : Hid (m1 ≤ 1000) := Nat.le_trans HN3.out.2.2 (by omega)
    clear HS7 HN3 HAC x0 x1 x2 x3 fr y0 y1
    generalize w7.setCell ⟨xb, 1, none⟩ (.int .i64 n0) = w8 at *
    rotate_left
    -- the count
    go_wp2_with fail
    have HS : Hid (∃ aa cc : Int, (-9223372036854775808 ≤ aa ∧ aa ≤ 9223372036854775807) ∧ (-9223372036854775808 ≤ cc ∧ cc ≤ 9223372036854775807) ∧ Sm d w p1 m1 cap1 L xb m aa cc tx (w7.setCell ⟨xb, 2, none⟩ (.int .i64 n1))) := ⟨a, n1, ⟨by omega, by have := HAC.out; omega⟩, ⟨c1, c2⟩, HS7.out.set 2 _ rfl⟩
    have HNX : Hid (m1 ≤ 1000) := Nat.le_trans HN3.out.2.2 (by omega)
    clear HS7 HN3 HAC x0 x1 x2 x3 fr y0 y1
    generalize w7.setCell ⟨xb, 2, none⟩ (.int .i64 n1) = w8 at *
    rotate_left
    -- a module twice
    have hm1 : 1 ≤ m1 := HN3.out.2.1
    have hm3 : m1 ≤ 3 := HN3.out.2.2
    clear x0 x1 x2 x3 fr y0 y1
    go_wp2_with fail
    refine (next_any d m1 _ HS7.out.dice (by omega) (by omega)).mono ?_
    rintro e w8 ⟨k3, hk3, rfl, ht, -⟩
    have HS8 := Lib.hid (HS7.out.keep ht)
    clear ht HS7
    have hk3L : k3 < L.length := by rw [← HN3.out.1]; exact hk3
    obtain ⟨-, -, -, hlies⟩ := HS8.out.own.srcs.lies
    obtain ⟨bl, off, rfl, hcells⟩ := hlies (by omega)
    have z0 := hcells.name k3 hk3L
    have z1 := hcells.text k3 hk3L
    have hz := HFX.out.at k3 hk3L
    have hki : (k3 : Int) < (m1 : Int) := by omega
    generalize L.getD k3 empty2 = y3 at *
    obtain ⟨nm3, tx3⟩ := y3
    simp only at z0 z1 hz
    have HZ := Lib.hid hz
    have HS9 := Lib.hid (HS8.out.keep (thrown_new HS8.out.dice (.cells #[.string nm3, .string tx3] 35)))
    have HG1 := Lib.hid (box_name w8 nm3 tx3 35)
    have HG2 := Lib.hid (box_text w8 nm3 tx3 35)
    clear hlies hz hcells hk3L HS8
    go_wp2_with (at_builtin; go_must (refine wpList_pushS (o := ⟨some 42, _, _, _, _, _⟩) rfl (.tmp 33) (.tmp 41) rfl HS9.out HN3.out.1 (by omega) rfl nm3 tx3 _ HG1.out HG2.out rfl ?_; intro qA kA capA wA hsA hqcA hklA; have HSA := Lib.hid hsA; have HQC := Lib.hid hqcA; have HKL := Lib.hid hklA; clear hsA hqcA hklA))
    have HS : Hid (∃ aa cc : Int, (-9223372036854775808 ≤ aa ∧ aa ≤ 9223372036854775807) ∧ (-9223372036854775808 ≤ cc ∧ cc ≤ 9223372036854775807) ∧ Sm d w qA kA capA (L ++ [(nm3, tx3)]) xb m aa cc tx wA) := ⟨a, c, ⟨by omega, by have := HAC.out; omega⟩, ⟨by omega, by have := HAC.out; omega⟩, HSA.out⟩
    have HNX : Hid (kA ≤ 1000) := by
      show kA ≤ 1000
      have e := HKL.out
      rw [List.length_append, ← HN3.out.1] at e
      have e2 : [(nm3, tx3)].length = 1 := rfl
      omega
    have HFX2 : Hid (Fits (L ++ [(nm3, tx3)])) := by
      intro x hx
      rcases List.mem_append.1 hx with hx | hx
      · exact HFX.out x hx
      · simp at hx; subst hx; exact HZ.out
    clear HPC HFX
    have HPC := HQC
    have HFX := HFX2
    clear HS9 HN3 HAC HG1 HG2 HSA HQC HKL HZ HFX2 z0 z1 hki hm1 hm3 hk3
    generalize wA = w8 at *
    rotate_left
    -- nothing
    go_wp2_with fail
    have HS : Hid (∃ aa cc : Int, (-9223372036854775808 ≤ aa ∧ aa ≤ 9223372036854775807) ∧ (-9223372036854775808 ≤ cc ∧ cc ≤ 9223372036854775807) ∧ Sm d w p1 m1 cap1 L xb m aa cc tx w7) := ⟨a, c, ⟨by omega, by have := HAC.out; omega⟩, ⟨by omega, by have := HAC.out; omega⟩, HS7.out⟩
    have HNX : Hid (m1 ≤ 1000) := Nat.le_trans HN3.out.2.2 (by omega)
    clear HS7 HN3 HAC x0 x1 x2 x3 fr y0 y1 k0 k1 k2
    generalize w7 = w8 at *
    all_goals
      obtain ⟨aa, cc, ha, hc, hsm⟩ := HS.out
      have HA := Lib.hid ha
      have HC := Lib.hid hc
      have HS2 := Lib.hid (hsm.keep (thrown_drewN hsm.dice 1))
      clear HS hsm ha hc
      apply wp_region_rel (LeS.refl d) (LeS.trans d)
      case hm => kernel_rfl
      case hB => kernel_rfl
      apply wpRel_cons (t := tyIs _ (.bool true))
      case h1 => (intro w' hl hd2; clear hl hd2; unfold relAt; go_simp; refine ⟨LeS.refl d _, ?_⟩; refine (awake_any _).mono ?_; rintro e w3 ⟨rfl, hb3⟩; exact ⟨(), rfl, fun h => thrown_below h hb3, trivial⟩)
      intro _
      rw [tyIs_f]
      go_simp
      apply wpRel_cons (t := tyIs _ _)
      case h1 => (intro w' hl hd2; clear hl hd2; unfold relAt; go_simp; exact rel_is (LeS.refl d))
      intro _
      rw [tyIs_f]
      go_simp
      apply wpRel_cons (t := tyIs _ _)
      case h1 => (intro w' hl hd2; clear hl hd2; unfold relAt; go_simp; exact rel_is (LeS.refl d))
      intro _
      rw [tyIs_f]
      go_simp
      apply wpRel_cons (t := tyIs _ _)
      case h1 => (intro w' hl hd2; clear hl hd2; unfold relAt; go_simp; exact rel_is (LeS.refl d))
      intro _
      rw [tyIs_f]
      go_simp
      apply wpRel_cons (t := tyRow8 d)
      case h1 => (intro w' hl hd2; have hk9 := (hl HS2.out.dice).good; clear hl hd2; have hne : w'.heap.size ≠ d.D := (by have := World.block_lt_of_cell? w' _ hk9.at_; simp only at this; omega); unfold relAt; go_simp; refine ⟨fun h => thrown_new h _, ⟨_, hne⟩, rfl, ?_⟩; rw [tyRow8_p]; exact ⟨(thrown_new hk9 _).good, names_row _ _⟩)
      rintro ⟨b8, hb8⟩
      rw [tyRow8_f]
      go_simp
      apply wpRel_cons (t := tyStr _ 4)
      case h1 => (intro w' hl hd2; have hx := fact_at hd2 (j := 4) (by kernel_rfl); clear hl hd2; simp [upd, tyRow8_p] at hx; unfold relAt; go_simp; refine ⟨LeS.refl d _, ?_⟩; refine (of_any d 4 8 8 b8 0 _ hx.1 (by omega) (by omega) hx.2 hb8).mono ?_; rintro e w3 ⟨s9, hs9, rfl, ht9⟩; exact ⟨⟨s9, hs9⟩, rfl, fun _ => ht9, trivial⟩)
      rintro ⟨s9, hs9⟩
      rw [tyStr_f]
      go_simp
      apply wpRel_cons (t := tyNm _ 4)
      case h1 => (intro w' hl hd2; clear hl hd2; unfold relAt; go_simp; exact ⟨LeS.refl d _, ⟨s9, hs9⟩, rfl, trivial⟩)
      rintro ⟨s8, hs8⟩
      rw [tyNm_f]
      go_simp
      apply wpRel_cons (t := tyIs _ (.agg #[.string m, .int .i64 aa, .int .i64 cc, .string tx]))
      case h1 => (intro w' hl hd2; have EW := HS2.out.keep (hl HS2.out.dice); clear hl hd2; obtain ⟨x0, x1, x2, x3, fr⟩ := EW.cells; unfold relAt; go_simp; exact rel_is (LeS.refl d))
      intro _
      rw [tyIs_f]
      go_simp
      apply wpRel_cons (t := tyIs _ (.bool true))
      case h1 => (intro w' hl hd2; have EW := HS2.out.keep (hl HS2.out.dice); clear hl hd2; unfold relAt; go_simp; refine ⟨LeS.refl d _, ?_⟩; refine (agree_any _ _ _ _ s8 _ m tx aa cc _ (by have := HNX.out; omega) EW.own.srcs HPC.out HFX.out (by unfold maxLen; omega) (by decide) hms htx2 HA.out.1 HA.out.2 HC.out.1 HC.out.2).mono ?_; rintro e w3 ⟨rfl, hb3⟩; exact ⟨(), rfl, fun h => thrown_below h hb3, trivial⟩)
      intro _
      rw [tyIs_f]
      go_simp
      apply wpRel_cons (t := tyIs _ _)
      case h1 => (intro w' hl hd2; clear hl hd2; unfold relAt; go_simp; exact rel_is (LeS.refl d))
      intro _
      rw [tyIs_f]
      go_simp
      apply wpRel_cons (t := tyIs _ _)
      case h1 => (intro w' hl hd2; clear hl hd2; unfold relAt; go_simp; exact rel_is (LeS.refl d))
      intro _
      rw [tyIs_f]
      go_simp
      apply wpRel_nil (Ts := [])
      intro w9 hl hF
      have HE := Lib.hid (HS2.out.keep (hl HS2.out.dice)).base
      clear hl hF HS2
      go_wp2_with fail
      go_ret
      exact ⟨rfl, HE.out⟩

theorem open_pair {H : Type} {enc : TypeId × Value → H} {W : World} {v : Value} {d : DataW H} {p : List MemPlace} {b0 : Nat} (hv : Value.okWide Try.prog W .any b0 23 v) (h : DataW.Trod enc Try.prog W 0 (fun _ => true) true 23 v d p) :
    ∃ n0 n1 : Int, v = .agg #[.int .i64 n0, .int .i64 n1] ∧ (Lit.int .i64 n0).wf = true ∧ (Lit.int .i64 n1).wf = true := by
  simp only [Value.okWide, Try.underlying23] at hv
  obtain ⟨cs, rfl, hcs, _⟩ := hv
  have h2 : Try.prog.cellsOf 23 = 2 := by kernel_rfl
  have c1 : Try.prog.cellsOf 3 = 1 := by kernel_rfl
  rw [h2] at hcs
  obtain ⟨v0, v1, rfl⟩ := Go.Joins.array2 hcs
  obtain ⟨fuel, hf⟩ := h
  obtain ⟨xs, m, rfl, hx, _, hxl, hi⟩ := DataW.trod_array Try.underlying23 hf
  match xs, hxl with
  | [y0, y1], _ =>
    have g0 := hi 0 (by omega)
    have g1 := hi 1 (by omega)
    simp [c1, Value.cells] at g0 g1
    obtain ⟨n0, e0, _, w0⟩ := DataW.trod_int Try.underlying3 g0
    obtain ⟨n1, e1, _, w1⟩ := DataW.trod_int Try.underlying3 g1
    simp only [List.cons.injEq, and_true] at e0 e1
    subst e0; subst e1
    exact ⟨n0, n1, rfl, w0, w1⟩

set_option maxRecDepth 100000 in
theorem lifted (os : Os) (started : os.Started) (H : Type) (enc : TypeId × Value → H) :
    ReturnsInHanded {} Try.checked os 3 .any (Rows.sourceMadeSpec.pre6 enc Try.prog Try.f3 Rows.sourceMadeRow.domain false) (Rows.sourceMadeSpec.post enc Try.prog Try.f3 false true false false) := by
  refine returnsInHanded_of_change (C := Try.checked) own started (by kernel_rfl) Try.func3
    (ChangeSpec.witness6 (enc := enc) (C := Try.checked) false ⟨#[], #[.slice none 0 0, .agg #[.int .i64 0, .int .i64 0]], []⟩ 8 (by kernel_rfl) (by kernel_rfl) (by kernel_rfl) (by kernel_rfl)) ?_
  intro W base args ds gs before hval0 hW hcnd _
  have hval : ∀ (j : Nat) t v, Try.f3.params[j]? = some t → args[j]? = some v → Value.okWide Try.prog W .any base t v := hval0
  have hW' := hW
  obtain ⟨p, q, hA0, hV, rfl, hfz, hnd⟩ := hW
  have hA : DataW.TrodAll enc Try.prog W 0 (fun _ => true) true Try.f3.params.toList args.toList ds p := hA0
  rw [Try.params3] at hA hval
  obtain ⟨v0, vs0, d0, ds0, p0, q0, hargs, rfl, rfl, h0, r0⟩ := trodAll_cons hA
  obtain ⟨v1, vs1, d1, ds1, p1, q1, rfl, rfl, rfl, h1, r1⟩ := trodAll_cons r0
  obtain ⟨rfl, rfl, rfl⟩ := trodAll_nil r1
  obtain rfl : args = #[v0, v1] := by cases args; simp_all
  obtain ⟨rfl, rfl⟩ := trodVars_none hV
  have k0 := h0
  have lt0 : ∀ x ∈ p0, x.block < W.heap.size := by obtain ⟨m, hm⟩ := k0; exact DataW.trod_lt m _ _ _ hm
  have k1 := h1
  have lt1 : ∀ x ∈ p1, x.block < W.heap.size := by obtain ⟨m, hm⟩ := k1; exact DataW.trod_lt m _ _ _ hm
  obtain ⟨p', n, cap, rfl, hn, hro, hin⟩ := open_rolls (hval 0 22 v0 rfl rfl) h0
  obtain ⟨n0, n1, rfl, w0, w1⟩ := open_pair (hval 1 23 v1 rfl rfl) h1
  have ba : -9223372036854775808 ≤ n0 ∧ n0 ≤ 9223372036854775807 := by simpa [Lit.wf, IntKind.min, IntKind.max, IntKind.signed, IntKind.bits] using w0
  have bc : -9223372036854775808 ≤ n1 ∧ n1 ≤ 9223372036854775807 := by simpa [Lit.wf, IntKind.min, IntKind.max, IntKind.signed, IntKind.bits] using w1
  clear hA0 hval0
  refine (walk p' n cap n0 n1 W ba.1 ba.2 bc.1 bc.2 hn hro hin).mono fun e W' ⟨he, bel⟩ => ?_
  subst he
  exact ⟨_, rfl, _, _, _, [], _, [], hW', trodAll_mk1 (shut_bool Try.underlying4 _), (trodAll_cons_mk (Below.trod laidOut (by kernel_rfl) (of_decide_eq_true (by kernel_rfl)) k0 bel lt0) (trodAll_cons_mk (Below.trod laidOut (by kernel_rfl) (of_decide_eq_true (by kernel_rfl)) k1 bel lt1) trodAll_mk0)), rfl, bel.frame _, fun h => by cases h⟩

theorem proved : Rows.SourceMadeSaid :=
  OpenClaim.holds_of_wide 3 Try.f3 rfl rfl rfl rfl rfl rfl rfl ⟨rfl, rfl, rfl, rfl, rfl⟩ rfl rfl rfl rfl rfl (by kernel_rfl) Try.func3 (by kernel_rfl)
    (of_decide_eq_true (by kernel_rfl)) (by unfold Func.isWrapper; first | (rw [if_pos (by decide +kernel)]; kernel_rfl) | (rw [if_neg (by decide +kernel)]; exact ⟨rfl, rfl⟩))
    (fun os started H enc _ => lifted os started H enc)
end Go.Proofs.Ytflcpcefjliijaa.sourceMade
