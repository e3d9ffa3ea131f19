/-
  LAWS: a code that is changed: a cell of a row of one's own, the states of (*Dice).OddCode.
-/
import Derived.Test.YthikdkeanndidaaDoorCoB
namespace Go.Proofs.YthikdkeanndidaaDoor
open Go Go.RowKit Go.Maps
set_option linter.unusedVariables false
set_option linter.unusedSimpArgs false
set_option maxRecDepth 1000000

theorem Enc.all_set {α : Type} (E : Enc α) {r' : α} {u : Value} {j : Nat} (hj : j < E.size) : ∀ (L : List α) (i : Nat) (hi : i < L.length), E.cells r' = (E.cells L[i]).set j u → E.all (L.set i r') = (E.all L).set (i * E.size + j) u
  | [], i, hi, _ => by simp at hi
  | x :: L, 0, hi, hr => by
    simp only [List.getElem_cons_zero] at hr
    rw [List.set_cons_zero, E.all_cons, E.all_cons, hr, Nat.zero_mul, Nat.zero_add, List.set_append_left _ _ (by rw [E.len]; exact hj)]
  | x :: L, i + 1, hi, hr => by
    simp only [List.getElem_cons_succ] at hr
    have hi' : i < L.length := by simpa using hi
    rw [List.set_cons_succ, E.all_cons, E.all_cons, Enc.all_set E hj L i hi' hr, List.set_append_right _ _ (by rw [E.len, Nat.succ_mul]; omega), E.len, Nat.succ_mul]
    congr 2
    omega
/-- a cell of an element is stored -/
theorem OwnL.setAt {α : Type} {E : Enc α} {t : TypeId} {w : World} {base g n cap : Nat} {R : List α} (h : OwnL E t w base (.slice (some ⟨g, 0, none⟩) n cap) R) {i j : Nat} (hi : i < R.length) (hj : j < E.size) (u : Value) (r' : α) (hr : E.cells r' = (E.cells R[i]).set j u) :
    OwnL E t (w.setCell ⟨g, i * E.size + j, none⟩ u) base (.slice (some ⟨g, 0, none⟩) n cap) (R.set i r') := by
  obtain ⟨h1, ⟨hv, _⟩ | ⟨g', cap', cur, hv, hb, hg, hn, hm, hz, ht⟩⟩ := h
  · injection hv with hv; cases hv
  · injection hv with e1 e2 e3
    injection e1 with e1
    injection e1 with e1
    subst e1; subst e2; subst e3
    unfold OwnL
    refine ⟨?_, .inr ⟨g, cap, cur.setIfInBounds (i * E.size + j) u, by rw [List.length_set], hb, heap_setCell_s w g _ _ _ u hg, by rw [List.length_set]; exact hn, hm, by rw [Array.size_setIfInBounds]; exact hz, ?_⟩⟩
    · rw [E.all_length]
    · rw [List.length_set, Enc.all_set E hj R i hi hr, ← ht, Array.toList_setIfInBounds, List.take_set]
theorem OwnL.cellOf {α : Type} {E : Enc α} {t : TypeId} {w : World} {base g n cap : Nat} {R : List α} (h : OwnL E t w base (.slice (some ⟨g, 0, none⟩) n cap) R) {i j : Nat} (hi : i < R.length) (hj : j < E.size) {u : Value} (hu : (E.cells R[i])[j]? = some u) : w.cell? ⟨g, i * E.size + j, none⟩ = some u := by
  obtain ⟨p, c, e, _, _, h4⟩ := h.sl
  obtain ⟨b, o, e2, hc⟩ := h4 (by omega)
  injection e with e1 _ _
  rw [← e1] at e2
  injection e2 with e2
  injection e2 with e2 e3 _
  subst e2; subst e3
  have := hc.elem i hi j hj u hu
  rwa [Nat.zero_add] at this
theorem OwnL.warmAt {α : Type} {E : Enc α} {t : TypeId} {w : World} {base g n cap : Nat} {R : List α} (h : OwnL E t w base (.slice (some ⟨g, 0, none⟩) n cap) R) (i : Nat) : w.frozen? ⟨g, i, none⟩ = false := by
  obtain ⟨h1, ⟨hv, _⟩ | ⟨g', cap', cur, hv, hb, hg, _⟩⟩ := h
  · injection hv with hv; cases hv
  · injection hv with e1 _ _
    injection e1 with e1
    injection e1 with e1
    subst e1
    exact Lib.frozen_of_heap hg i

theorem SlA.blocksO {α : Type} {E : Enc α} {A : Nat → Prop} {w w' : World} {v : Value} {L : List α} (h : SlA E A w v L) (hk : ∀ k, A k → k < w.heap.size → w'.heap[k]? = w.heap[k]?) : SlA E A w' v L :=
  (h.here.keep (w' := w') (fun a u ha hc => by rw [World.cell?_of_block (w := w) (hk a.block ha.1 ha.2)]; exact hc)).mono (fun k hk => hk.1)
/-- an operation that something was changed of -/
structure Opp.Odd (o : Opp) : Prop where
  ok : o.Ok
  few : o.list.length ≤ 3
  sz : o.sym.size ≤ 1
structure Cdd.Odd (x : Cdd) : Prop where
  ok : x.Ok
  few : x.ops.length ≤ 15
  ops : ∀ o ∈ x.ops, o.Odd
/-- blocks that hold lists, away from all that is written -/
def AwayO (d : Dice) (cb g : Nat) : Nat → Prop := fun k => k ≠ d.D ∧ k ≠ cb ∧ k ≠ cb + 1 ∧ k ≠ g
/-- a code that is being changed -/
structure Od (d : Dice) (w wr : World) (cb : Nat) (pr rg : Int) (g n cap : Nat) (R : List Rop) : Prop where
  start : DiceAt d w
  thrown : Thrown d w wr
  at_ : cb = w.heap.size
  box : wr.heap[cb]? = some (.cells #[.int .i64 pr, .int .i64 rg, .slice (some ⟨g, 0, none⟩) n cap] cdT (0, 0))
  res : wr.heap[cb + 1]? = some (.cells #[.int .i64 0, .int .i64 0, .slice none 0 0] cdT (0, 0))
  row : OwnL encOp opT wr (cb + 2) (.slice (some ⟨g, 0, none⟩) R.length cap) R
  lists : ∀ r ∈ R, SlA encI (AwayO d cb g) wr r.sl r.1.list
  pi : InI pr
  ri : InI rg
  len : n ≤ R.length ∧ R.length ≤ 15
  ok : ∀ r ∈ R, r.1.Odd
theorem Od.lt {d : Dice} {w wr : World} {cb : Nat} {pr rg : Int} {g n cap : Nat} {R : List Rop} (h : Od d w wr cb pr rg g n cap R) : cb + 1 < wr.heap.size := heap_lt h.res
theorem OwnL.gLt {α : Type} {E : Enc α} {t : TypeId} {w : World} {base g n cap : Nat} {R : List α} (h : OwnL E t w base (.slice (some ⟨g, 0, none⟩) n cap) R) : base ≤ g ∧ g < w.heap.size := OwnL.ltO h g rfl
/-- what turns nothing that was there but the dice -/
theorem Od.later {d : Dice} {w wr wy : World} {cb : Nat} {pr rg : Int} {g n cap : Nat} {R : List Rop} (h : Od d w wr cb pr rg g n cap R) (hd : Dr d wr.heap.size wr wy) : Od d w wy cb pr rg g n cap R := by
  have hlt := h.lt
  have hsz := h.thrown.but.size
  have hlow := dcLow h.start
  have hat := h.at_
  have hD := hlow.1
  have h0 : Dr d w.heap.size w wr := Dr.of_thrown h.thrown hD
  refine ⟨h.start, (h0.trans (hd.mono hsz)).thrown h.start, hat, box_dr h.box hd (by omega) (by omega), box_dr h.res hd (by omega) hlt, own_dr h.row hd (by omega) (Nat.le_refl _), fun r hr => ?_, h.pi, h.ri, h.len, h.ok⟩
  exact (h.lists r hr).blocksO (fun k hk hl => hd.block k hl hk.1)
/-- one cell of the code's own boxes or rows is stored -/
theorem Od.drSet {d : Dice} {w wr : World} {cb : Nat} {pr rg : Int} {g n cap : Nat} {R : List Rop} (h : Od d w wr cb pr rg g n cap R) {b i : Nat} {u : Value} (hb : w.heap.size ≤ b) : Thrown d w (wr.setCell ⟨b, i, none⟩ u) := by
  have hlow := dcLow h.start
  have h0 : Dr d w.heap.size w wr := Dr.of_thrown h.thrown hlow.1
  exact (h0.trans (set_dr (hlow) hb)).thrown h.start
theorem Od.setOp {d : Dice} {w wr : World} {cb : Nat} {pr rg : Int} {g n cap : Nat} {R : List Rop} (h : Od d w wr cb pr rg g n cap R) {k j : Nat} {u : Value} {r' : Rop} (hk : k < R.length) (hj : j < 6) (hr : encOp.cells r' = (encOp.cells R[k]).set j u)
    (hl : SlA encI (AwayO d cb g) wr r'.sl r'.1.list) (ho : r'.1.Odd) : Od d w (wr.setCell ⟨g, k * 6 + j, none⟩ u) cb pr rg g n cap (R.set k r') := by
  have hat := h.at_
  have hg := h.row.gLt
  have hkp : Kp (AwayO d cb g) wr (wr.setCell ⟨g, k * 6 + j, none⟩ u) := Kp.but (But.setCell (M := fun a => a.block = g) wr ⟨g, k * 6 + j, none⟩ u rfl) (fun a ha e => ha.2.2.2 e)
  refine ⟨h.start, h.drSet (by omega), hat, ?_, ?_, ?_, ?_, h.pi, h.ri, by rw [List.length_set]; exact h.len, ?_⟩
  · rw [Below.heap_setCell _ _ _ _ (by show cb ≠ g; omega)]; exact h.box
  · rw [Below.heap_setCell _ _ _ _ (by show cb + 1 ≠ g; omega)]; exact h.res
  · have := h.row.setAt hk (show j < encOp.size from hj) u r' hr
    rw [List.length_set]
    exact this
  · intro q hq
    rcases List.mem_or_eq_of_mem_set hq with hq | rfl
    · exact (h.lists q hq).keep hkp
    · exact hl.keep hkp
  · intro q hq
    rcases List.mem_or_eq_of_mem_set hq with hq | rfl
    · exact h.ok q hq
    · exact ho
theorem Od.setBox {d : Dice} {w wr : World} {cb : Nat} {pr rg : Int} {g n cap : Nat} {R : List Rop} (h : Od d w wr cb pr rg g n cap R) {j : Nat} {u : Value} {pr' rg' : Int} {n' : Nat}
    (hu : (#[.int .i64 pr, .int .i64 rg, .slice (some ⟨g, 0, none⟩) n cap] : Array Value).setIfInBounds j u = #[.int .i64 pr', .int .i64 rg', .slice (some ⟨g, 0, none⟩) n' cap]) (hp : InI pr') (hr : InI rg') (hn : n' ≤ R.length) : Od d w (wr.setCell ⟨cb, j, none⟩ u) cb pr' rg' g n' cap R := by
  have hat := h.at_
  have hg := h.row.gLt
  have hkp : Kp (AwayO d cb g) wr (wr.setCell ⟨cb, j, none⟩ u) := Kp.but (But.setCell (M := fun a => a.block = cb) wr ⟨cb, j, none⟩ u rfl) (fun a ha e => ha.2.1 e)
  refine ⟨h.start, h.drSet (by omega), hat, ?_, ?_, ?_, fun q hq => (h.lists q hq).keep hkp, hp, hr, ⟨hn, h.len.2⟩, h.ok⟩
  · rw [heap_setCell_s wr cb j _ _ u h.box, hu]
  · rw [Below.heap_setCell _ _ _ _ (by show cb + 1 ≠ cb; omega)]; exact h.res
  · exact OwnL.keepO h.row fun k hk => Below.heap_setCell _ _ _ _ (by have := (OwnL.ltO h.row k hk).1; show k ≠ cb; omega)
theorem SlA.takeN {α : Type} {E : Enc α} {A : Nat → Prop} {w : World} {p : Option Addr} {c n : Nat} {L : List α} (h : SlA E A w (.slice p L.length c) L) (hn : n ≤ L.length) : SlA E A w (.slice p n c) (L.take n) := by
  obtain ⟨p', c', e, h2, h3, h4⟩ := h
  injection e with e1 e2 e3
  subst e1; subst e3
  have hl : (L.take n).length = n := by rw [List.length_take]; omega
  refine ⟨p, c, by rw [hl], by omega, h3, fun h0 => ?_⟩
  obtain ⟨b, o, e, ha, hc⟩ := h4 (by omega)
  refine ⟨b, o, e, ha, fun j v hj => hc j v ?_⟩
  rw [← List.take_append_drop n L, E.all_append, List.getElem?_append_left (by
    rcases Nat.lt_or_ge j (E.all (L.take n)).length with q | q
    · exact q
    · rw [List.getElem?_eq_none q] at hj; cases hj)]
  exact hj
/-- a code that something was changed of -/
theorem Od.fin {d : Dice} {w wx : World} {cb : Nat} {pr rg : Int} {g n cap : Nat} {R : List Rop} (h : Od d w wx cb pr rg g n cap R) :
    ∃ (v : Value) (x : Cdd), Ending.returned (.agg #[.int .i64 pr, .int .i64 rg, .slice (some ⟨g, 0, none⟩) n cap]) = .returned v ∧ CdA (fun k => k ≠ d.D) (((wx.setCell ⟨cb + 1, 0, none⟩ (.int .i64 pr)).setCell ⟨cb + 1, 1, none⟩ (.int .i64 rg)).setCell ⟨cb + 1, 2, none⟩ (.slice (some ⟨g, 0, none⟩) n cap)) v x ∧ x.Odd ∧ Thrown d w (((wx.setCell ⟨cb + 1, 0, none⟩ (.int .i64 pr)).setCell ⟨cb + 1, 1, none⟩ (.int .i64 rg)).setCell ⟨cb + 1, 2, none⟩ (.slice (some ⟨g, 0, none⟩) n cap)) := by
  have hat := h.at_
  have hlow := dcLow h.start
  have hset : ∀ (i : Nat) (W : World) (u : Value), Dr d w.heap.size W (W.setCell ⟨cb + 1, i, none⟩ u) := fun i W u => set_dr hlow (by omega)
  have hall := (((Dr.of_thrown h.thrown hlow.1).trans (hset 0 wx (.int .i64 pr))).trans (hset 1 _ (.int .i64 rg))).trans (hset 2 _ (.slice (some ⟨g, 0, none⟩) n cap))
  have hkp : Kp (fun k => k ≠ d.D ∧ k ≠ cb + 1) wx _ := Kp.but (cd_but (w := wx) (B := cb + 1) pr rg (some ⟨g, 0, none⟩) n cap) (fun a ha e => ha.2 e)
  have hrow := ((h.row.sla.takeN (n := n) h.len.1).mono (B := fun k => k ≠ d.D ∧ k ≠ cb + 1) (fun k hk => by have := hlow.1; omega)).keep hkp
  have hl : ((R.take n).map (·.1)).length = n := by rw [List.length_map, List.length_take]; have := h.len.1; omega
  refine ⟨_, ⟨pr, rg, (R.take n).map (·.1)⟩, rfl, ⟨some ⟨g, 0, none⟩, cap, by rw [hl], R.take n, rfl, ?_, ?_⟩, ⟨⟨h.pi, h.ri, ?_⟩, by rw [hl]; have := h.len; omega, ?_⟩, hall.thrown h.start⟩
  · rw [hl]; exact hrow.mono (fun k hk => hk.1)
  · intro r hr
    exact (((h.lists r (List.mem_of_mem_take hr)).mono (B := fun k => k ≠ d.D ∧ k ≠ cb + 1) (fun k hk => ⟨hk.1, hk.2.2.1⟩)).keep hkp).mono (fun k hk => hk.1)
  · intro o ho
    obtain ⟨r, hr, rfl⟩ := List.mem_map.1 ho
    exact (h.ok r (List.mem_of_mem_take hr)).ok
  · intro o ho
    obtain ⟨r, hr, rfl⟩ := List.mem_map.1 ho
    exact h.ok r (List.mem_of_mem_take hr)
end Go.Proofs.YthikdkeanndidaaDoor
