/-
  LAWS: a code that dice make: its boxes, and what the operations of a round let be.
-/
import Derived.Test.YthikdkeanndidaaDoorCd
import Derived.Test.YthikdkeanndidaaDoorDr
namespace Go.Proofs.YthikdkeanndidaaDoor
open Go Go.RowKit Go.Maps
set_option linter.unusedVariables false
set_option linter.unusedSimpArgs false
set_option maxRecDepth 1000000

abbrev opT : TypeId := 58
abbrev cdT : TypeId := 24
abbrev intT : TypeId := 3
abbrev opCells (k a b c : Int) (v : Value) (s : ByteArray) : Array Value := #[.int .i64 k, .int .i64 a, .int .i64 b, .int .i64 c, v, .string s]
/-- the box of an operation -/
structure OpB (w : World) (ob : Nat) (k a b c : Int) (v : Value) (s : ByteArray) (l : List Int) : Prop where
  box : w.heap[ob]? = some (.cells (opCells k a b c v s) opT (0, 0))
  ki : InI k
  ai : InI a
  bi : InI b
  ci : InI c
  sz : s.size ≤ 1
  own : OwnL encI intT w (ob + 1) v l
  li : ∀ n ∈ l, InI n
  len : l.length ≤ 2
/-- an operation without a list -/
def OpN (w : World) (ob : Nat) : Prop := ∃ k a b c s, OpB w ob k a b c (.slice none 0 0) s []
/-- any operation -/
def OpL (w : World) (ob : Nat) : Prop := ∃ k a b c v s l, OpB w ob k a b c v s l
theorem OpN.any {w : World} {ob : Nat} (h : OpN w ob) : OpL w ob := by
  obtain ⟨k, a, b, c, s, h⟩ := h
  exact ⟨k, a, b, c, _, s, _, h⟩
theorem OpB.lt {w : World} {ob : Nat} {k a b c : Int} {v : Value} {s : ByteArray} {l : List Int} (h : OpB w ob k a b c v s l) : ob < w.heap.size := heap_lt h.box
theorem OpB.cells {w : World} {ob : Nat} {k a b c : Int} {v : Value} {s : ByteArray} {l : List Int} (h : OpB w ob k a b c v s l) :
    w.cell? ⟨ob, 0, none⟩ = some (.int .i64 k) ∧ w.cell? ⟨ob, 1, none⟩ = some (.int .i64 a) ∧ w.cell? ⟨ob, 2, none⟩ = some (.int .i64 b) ∧ w.cell? ⟨ob, 3, none⟩ = some (.int .i64 c) ∧ w.cell? ⟨ob, 4, none⟩ = some v ∧ w.cell? ⟨ob, 5, none⟩ = some (.string s) := by
  refine ⟨?_, ?_, ?_, ?_, ?_, ?_⟩ <;> rw [Lib.cell_of_heap h.box] <;> rfl
theorem OpB.warm {w : World} {ob : Nat} {k a b c : Int} {v : Value} {s : ByteArray} {l : List Int} (h : OpB w ob k a b c v s l) (i : Nat) : w.frozen? ⟨ob, i, none⟩ = false := Lib.frozen_of_heap h.box i
theorem OpN.of_box {w w' : World} {ob : Nat} (h : OpN w ob) (hb : w'.heap[ob]? = w.heap[ob]?) : OpN w' ob := by
  obtain ⟨k, a, b, c, s, h⟩ := h
  exact ⟨k, a, b, c, s, hb.trans h.box, h.ki, h.ai, h.bi, h.ci, h.sz, OwnL.isNil _ _ _ _, h.li, h.len⟩
theorem OpN.set {w : World} {ob i : Nat} {n : Int} (h : OpN w ob) (hi : i = 1 ∨ i = 2 ∨ i = 3) (hn : InI n) : OpN (w.setCell ⟨ob, i, none⟩ (.int .i64 n)) ob := by
  obtain ⟨k, a, b, c, s, h⟩ := h
  have hs := heap_setCell_same w ob i _ _ (.int .i64 n) h.box
  rcases hi with rfl | rfl | rfl
  · exact ⟨k, n, b, c, s, hs, h.ki, hn, h.bi, h.ci, h.sz, OwnL.isNil _ _ _ _, h.li, h.len⟩
  · exact ⟨k, a, n, c, s, hs, h.ki, h.ai, hn, h.ci, h.sz, OwnL.isNil _ _ _ _, h.li, h.len⟩
  · exact ⟨k, a, b, n, s, hs, h.ki, h.ai, h.bi, hn, h.sz, OwnL.isNil _ _ _ _, h.li, h.len⟩
theorem OpN.setS {w : World} {ob : Nat} {s' : ByteArray} (h : OpN w ob) (hn : s'.size ≤ 1) : OpN (w.setCell ⟨ob, 5, none⟩ (.string s')) ob := by
  obtain ⟨k, a, b, c, s, h⟩ := h
  have hs := heap_setCell_same w ob 5 _ _ (.string s') h.box
  exact ⟨k, a, b, c, s', hs, h.ki, h.ai, h.bi, h.ci, hn, OwnL.isNil _ _ _ _, h.li, h.len⟩
/-- the box of an operation outlives a throw and what is made beside it -/
theorem OpB.kept {w w' : World} {ob : Nat} {k a b c : Int} {v : Value} {s : ByteArray} {l : List Int} (h : OpB w ob k a b c v s l) (hk : ∀ g, ob ≤ g → g < w.heap.size → w'.heap[g]? = w.heap[g]?) : OpB w' ob k a b c v s l := by
  refine ⟨(hk ob (Nat.le_refl _) h.lt).trans h.box, h.ki, h.ai, h.bi, h.ci, h.sz, ?_, h.li, h.len⟩
  have ho := h.own
  unfold OwnL at ho ⊢
  refine ⟨ho.1, ?_⟩
  rcases ho.2 with hn | ⟨g, cap, cur, hv, hb, hg, r⟩
  · exact .inl hn
  · exact .inr ⟨g, cap, cur, hv, hb, by rw [hk g (by omega) (heap_lt hg)]; exact hg, r⟩

/-- what the operations of a round's regions do to a world: the operation's box is one still, all else is as it was but for the dice -/
structure Lq (d : Dice) (ob : Nat) (w w' : World) : Prop where
  dr : Dr d ob w w'
  keep : ∀ k, k < w.heap.size → k ≠ d.D → k ≠ ob → w'.heap[k]? = w.heap[k]?
  opn : OpN w ob → OpN w' ob
theorem Lq.refl (d : Dice) (ob : Nat) (w : World) : Lq d ob w w := ⟨Dr.refl _ _ _, fun _ _ _ _ => rfl, id⟩
theorem Lq.trans {d : Dice} {ob : Nat} (a b c : World) (h : Lq d ob a b) (k : Lq d ob b c) : Lq d ob a c :=
  ⟨h.dr.trans k.dr, fun x hx h1 h2 => (k.keep x (Nat.lt_of_lt_of_le hx h.dr.size) h1 h2).trans (h.keep x hx h1 h2), fun q => k.opn (h.opn q)⟩
theorem Lq.of_thrown {d : Dice} {ob : Nat} {w w' : World} (h : Thrown d w w') (hlow : DcLow d ob) (hs : ob < w.heap.size) : Lq d ob w w' := by
  have hd := Dr.of_thrown h (by have := hlow.1; omega)
  exact ⟨hd.mono (by omega), fun k hk h1 _ => hd.block k hk h1, fun q => q.of_box (hd.block ob hs (by have := hlow.1; omega))⟩
theorem Lq.of_below {d : Dice} {ob : Nat} {w w' : World} (h : Below w.heap.size w w') (hlow : DcLow d ob) (hs : ob < w.heap.size) : Lq d ob w w' :=
  ⟨Dr.of_below (h.mono (by omega)) hlow, fun k hk _ _ => h.block k hk, fun q => q.of_box (h.block ob hs)⟩
theorem Lq.set {d : Dice} {ob i : Nat} {n : Int} {w : World} (hlow : DcLow d ob) (hi : i = 1 ∨ i = 2 ∨ i = 3) (hn : InI n) : Lq d ob w (w.setCell ⟨ob, i, none⟩ (.int .i64 n)) :=
  ⟨set_dr hlow (Nat.le_refl _), fun k _ _ h => Below.heap_setCell _ _ _ _ h, fun q => q.set hi hn⟩
theorem Lq.setS {d : Dice} {ob : Nat} {s : ByteArray} {w : World} (hlow : DcLow d ob) (hn : s.size ≤ 1) : Lq d ob w (w.setCell ⟨ob, 5, none⟩ (.string s)) :=
  ⟨set_dr hlow (Nat.le_refl _), fun k _ _ h => Below.heap_setCell _ _ _ _ h, fun q => q.setS hn⟩
theorem Lq.lt {d : Dice} {ob : Nat} {w w' : World} (h : Lq d ob w w') (hs : ob < w.heap.size) : ob < w'.heap.size := Nat.lt_of_lt_of_le hs h.dr.size

/-! ### kinds -/
def tyNumQ (d : Dice) (ob n : Nat) (h : 0 < n) : Ty (Lq d ob) := tyOf (Lq d ob) (α := {k : Nat // k < n}) ⟨⟨0, h⟩⟩ (fun k => .int .i64 (k.1 : Int))
theorem tyNumQ_f (d : Dice) (ob n : Nat) (h : 0 < n) (k : Nat) (hk : k < n) : (tyNumQ d ob n h).f ⟨k, hk⟩ = .int .i64 (k : Int) := rfl
/-- an int -/
def tyIn (d : Dice) (ob : Nat) : Ty (Lq d ob) := tyOf (Lq d ob) (α := {k : Int // InI k}) ⟨⟨0, by unfold InI; omega⟩⟩ (fun k => .int .i64 k.1)
theorem tyIn_f (d : Dice) (ob : Nat) (k : Int) (hk : InI k) : (tyIn d ob).f ⟨k, hk⟩ = .int .i64 k := rfl
/-- the six numbers -/
def sixC : List Value := [.int .i64 0, .int .i64 1, .int .i64 (-1), .int .i64 5, .int .i64 9223372036854775807, .int .i64 (-9223372036854775808)]
structure SixAt (d : Dice) (ob : Nat) (b : Nat) (w : World) : Prop where
  at_ : CellsAt w b 0 sixC
  lt : b < w.heap.size
  ne : b ≠ d.D ∧ b ≠ ob
theorem SixAt.keep {d : Dice} {ob b : Nat} {w w' : World} (h : SixAt d ob b w) (hl : Lq d ob w w') : SixAt d ob b w' :=
  ⟨fun j v hv => by rw [World.cell?_of_block (w := w) (hl.keep b h.lt h.ne.1 h.ne.2)]; exact h.at_ j v hv, Nat.lt_of_lt_of_le h.lt hl.dr.size, h.ne⟩
def tySix (d : Dice) (ob : Nat) : Ty (Lq d ob) := ⟨{b : Nat // True}, ⟨⟨0, trivial⟩⟩, fun b => .slice (some ⟨b.1, 0, none⟩) 6 6, fun b w => SixAt d ob b.1 w, fun _ _ _ hl h => h.keep hl⟩
theorem tySix_f (d : Dice) (ob b : Nat) (h : True) : (tySix d ob).f ⟨b, h⟩ = .slice (some ⟨b, 0, none⟩) 6 6 := rfl
theorem tySix_p (d : Dice) (ob b : Nat) (h : True) (w : World) : (tySix d ob).φ ⟨b, h⟩ w = SixAt d ob b w := rfl
def tySixP (d : Dice) (ob : Nat) : Ty (Lq d ob) := ⟨Nat × {k : Nat // k < 6}, ⟨(0, ⟨0, by omega⟩)⟩, fun x => .pointer (some ⟨x.1, x.2.1, none⟩), fun x w => SixAt d ob x.1 w, fun _ _ _ hl h => h.keep hl⟩
theorem tySixP_f (d : Dice) (ob b k : Nat) (h : k < 6) : (tySixP d ob).f (b, ⟨k, h⟩) = .pointer (some ⟨b, k, none⟩) := rfl
theorem tySixP_p (d : Dice) (ob b k : Nat) (h : k < 6) (w : World) : (tySixP d ob).φ (b, ⟨k, h⟩) w = SixAt d ob b w := rfl
theorem SixAt.cell {d : Dice} {ob b k : Nat} {w : World} (h : SixAt d ob b w) (hk : k < 6) : ∃ n, InI n ∧ w.cell? ⟨b, k, none⟩ = some (.int .i64 n) := by
  have key : ∀ v, sixC[k]? = some v → w.cell? ⟨b, k, none⟩ = some v := fun v hv => by have := h.at_ k v hv; rwa [Nat.zero_add] at this
  rcases k with _ | _ | _ | _ | _ | _ | k
  · exact ⟨0, by unfold InI; omega, key _ rfl⟩
  · exact ⟨1, by unfold InI; omega, key _ rfl⟩
  · exact ⟨-1, by unfold InI; omega, key _ rfl⟩
  · exact ⟨5, by unfold InI; omega, key _ rfl⟩
  · exact ⟨9223372036854775807, by unfold InI; omega, key _ rfl⟩
  · exact ⟨-9223372036854775808, by unfold InI; omega, key _ rfl⟩
  · omega

/-- a region's world: the code's box, the operation's box, the dice -/
structure Rq (d : Dice) (cb ob rg : Nat) (w0 W : World) : Prop where
  lq : Lq d ob w0 W
  good : DiceAt d W
  regs : W.cell? ⟨cb, 1, none⟩ = some (.int .i64 (rg : Int))
  opn : OpN W ob
  lt : ob < W.heap.size
/-- where all begins -/
structure Rs (d : Dice) (cb ob rg : Nat) (w : World) : Prop where
  low : DcLow d ob
  cbo : cb < ob ∧ cb ≠ d.D
  good : DiceAt d w
  regs : w.cell? ⟨cb, 1, none⟩ = some (.int .i64 (rg : Int))
  opn : OpN w ob
  lt : ob < w.heap.size
theorem Rs.at_ {d : Dice} {cb ob rg : Nat} {w W : World} (h : Rs d cb ob rg w) (hl : Lq d ob w W) : Rs d cb ob rg W :=
  ⟨h.low, h.cbo, hl.dr.good h.good, by rw [World.cell?_of_block (w := w) (a := ⟨cb, 1, none⟩) (hl.dr.block cb h.cbo.1 h.cbo.2)]; exact h.regs, hl.opn h.opn, hl.lt h.lt⟩
theorem Rs.drew {d : Dice} {cb ob rg : Nat} {w : World} (h : Rs d cb ob rg w) : Rs d cb ob rg w.drew :=
  h.at_ (Lq.of_below (Below.refl _ _).drew h.low h.lt)
/-- a throw in a region -/
theorem rel_next {d : Dice} {cb ob rg m : Nat} {W : World} (h : Rs d cb ob rg W) (h1 : 0 < m) (h2 : m ≤ 2000000) :
    Lq d ob W W ∧ Calls Tryd.prog 8 #[.pointer (some ⟨d.D, 0, none⟩), .int .i64 (m : Int)] W (fun e w'' => ∃ x, e = .returned ((tyNumQ d ob m h1).f x) ∧ Lq d ob W w'' ∧ (tyNumQ d ob m h1).φ x w'') := by
  refine ⟨Lq.refl _ _ _, (next_any d m W h.good h1 h2).mono ?_⟩
  rintro e w'' ⟨k, hk, rfl, ht, -⟩
  exact ⟨⟨k, hk⟩, rfl, Lq.of_thrown ht h.low h.lt, trivial⟩
theorem inI_nat {n : Nat} (h : n ≤ 9223372036854775807) : InI (n : Int) := by unfold InI; omega
/-- what an operation waits for -/
theorem lean_ofR {md : Region.Mode} {o : Oper} {F : Facts} {w : World} (h : leans md o F w) (j : Nat) (hj : (o.after.any fun e => Region.binds md e && (e.on == j)) = true) : F j w := by
  obtain ⟨e, he, h2⟩ := Array.any_eq_true'.1 hj
  simp only [Bool.and_eq_true, beq_iff_eq] at h2
  rw [← h2.2]
  exact h e he h2.1
theorem six_mk {d : Dice} {cb ob rg : Nat} {P : Program} {W : World} (h : Rs d cb ob rg W) :
    relUpon P (Lq d ob) (tySix d ob) W (.ok (.value (.slice (some ⟨W.heap.size, 0, none⟩) 6 6)) (W.alloc (.cells #[.int .i64 0, .int .i64 1, .int .i64 (-1), .int .i64 5, .int .i64 9223372036854775807, .int .i64 (-9223372036854775808)] intT))) := by
  have hs : SixAt d ob W.heap.size (W.alloc (.cells #[.int .i64 0, .int .i64 1, .int .i64 (-1), .int .i64 5, .int .i64 9223372036854775807, .int .i64 (-9223372036854775808)] intT)) := by
    refine ⟨cellsAt_alloc W sixC intT, by rw [World.size_alloc]; omega, ?_, ?_⟩
    · have := h.low.1; have := h.lt; omega
    · have := h.lt; omega
  exact ⟨Lq.of_below (below_box W _) h.low h.lt, ⟨W.heap.size, trivial⟩, rfl, hs⟩
theorem pos6 : 0 < 6 := by decide
theorem pos2 : 0 < 2 := by decide
end Go.Proofs.YthikdkeanndidaaDoor
