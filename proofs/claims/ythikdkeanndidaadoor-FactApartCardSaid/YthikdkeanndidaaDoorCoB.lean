/-
  LAWS: a code that dice make: one operation's way.
-/
import Derived.Test.YthikdkeanndidaaDoorCo
import Derived.Test.YthikdkeanndidaaDoorCr
import Derived.Test.YthikdkeanndidaaDoorCi
namespace Go.Proofs.YthikdkeanndidaaDoor
open Go Go.RowKit Go.Maps
set_option linter.unusedVariables false
set_option linter.unusedSimpArgs false
set_option maxRecDepth 1000000

/-- an operation of the kind kv, without a list -/
structure Rk (d : Dice) (cb ob rg : Nat) (kv : Int) (w8 w : World) : Prop where
  rs : Rs d cb ob rg w
  dr : Dr d ob w8 w
  box : ∃ a b c s, OpB w ob kv a b c (.slice none 0 0) s []
theorem Rk.at_ {d : Dice} {cb ob rg : Nat} {kv : Int} {w8 w w' : World} (h : Rk d cb ob rg kv w8 w) (hl : Lq d ob w w') (hb : w'.heap[ob]? = w.heap[ob]?) : Rk d cb ob rg kv w8 w' := by
  obtain ⟨a, b, c, s, hx⟩ := h.box
  exact ⟨h.rs.at_ hl, h.dr.trans hl.dr, a, b, c, s, hb.trans hx.box, hx.ki, hx.ai, hx.bi, hx.ci, hx.sz, OwnL.isNil _ _ _ _, hx.li, hx.len⟩
theorem Rk.thrown {d : Dice} {cb ob rg : Nat} {kv : Int} {w8 w w' : World} (h : Rk d cb ob rg kv w8 w) (ht : Thrown d w w') : Rk d cb ob rg kv w8 w' := by
  have h1 := h.rs.lt
  have h2 := h.rs.low.1
  exact h.at_ (Lq.of_thrown ht h.rs.low h1) ((Dr.of_thrown ht (by omega)).block ob h1 (by omega))
theorem Rk.below {d : Dice} {cb ob rg : Nat} {kv : Int} {w8 w w' : World} (h : Rk d cb ob rg kv w8 w) (hb : Below w.heap.size w w') : Rk d cb ob rg kv w8 w' :=
  h.at_ (Lq.of_below hb h.rs.low h.rs.lt) (hb.block ob h.rs.lt)
theorem Rk.set {d : Dice} {cb ob rg i : Nat} {kv n : Int} {w8 w : World} (h : Rk d cb ob rg kv w8 w) (hi : i = 1 ∨ i = 2 ∨ i = 3) (hn : InI n) : Rk d cb ob rg kv w8 (w.setCell ⟨ob, i, none⟩ (.int .i64 n)) := by
  obtain ⟨a, b, c, s, hx⟩ := h.box
  have hs := heap_setCell_same w ob i _ _ (.int .i64 n) hx.box
  have hl : Lq d ob w (w.setCell ⟨ob, i, none⟩ (.int .i64 n)) := Lq.set h.rs.low hi hn
  refine ⟨h.rs.at_ hl, h.dr.trans hl.dr, ?_⟩
  rcases hi with rfl | rfl | rfl
  · exact ⟨n, b, c, s, hs, hx.ki, hn, hx.bi, hx.ci, hx.sz, OwnL.isNil _ _ _ _, hx.li, hx.len⟩
  · exact ⟨a, n, c, s, hs, hx.ki, hx.ai, hn, hx.ci, hx.sz, OwnL.isNil _ _ _ _, hx.li, hx.len⟩
  · exact ⟨a, b, n, s, hs, hx.ki, hx.ai, hx.bi, hn, hx.sz, OwnL.isNil _ _ _ _, hx.li, hx.len⟩
theorem Rk.setS {d : Dice} {cb ob rg : Nat} {kv : Int} {s' : ByteArray} {w8 w : World} (h : Rk d cb ob rg kv w8 w) (hn : s'.size ≤ 1) : Rk d cb ob rg kv w8 (w.setCell ⟨ob, 5, none⟩ (.string s')) := by
  obtain ⟨a, b, c, s, hx⟩ := h.box
  have hs := heap_setCell_same w ob 5 _ _ (.string s') hx.box
  have hl : Lq d ob w (w.setCell ⟨ob, 5, none⟩ (.string s')) := Lq.setS h.rs.low hn
  exact ⟨h.rs.at_ hl, h.dr.trans hl.dr, a, b, c, s', hs, hx.ki, hx.ai, hx.bi, hx.ci, hn, OwnL.isNil _ _ _ _, hx.li, hx.len⟩
/-- the cells of the operation's box -/
theorem Rk.view {d : Dice} {cb ob rg : Nat} {kv : Int} {w8 w : World} (h : Rk d cb ob rg kv w8 w) : ∃ a b c s, w.cell? ⟨ob, 0, none⟩ = some (.int .i64 kv) ∧ w.cell? ⟨ob, 1, none⟩ = some (.int .i64 a) ∧ w.cell? ⟨ob, 2, none⟩ = some (.int .i64 b) ∧ w.cell? ⟨ob, 3, none⟩ = some (.int .i64 c) ∧ w.cell? ⟨ob, 4, none⟩ = some (.slice none 0 0) ∧ w.cell? ⟨ob, 5, none⟩ = some (.string s) ∧ w.frozen? ⟨ob, 1, none⟩ = false ∧ w.frozen? ⟨ob, 2, none⟩ = false ∧ w.frozen? ⟨ob, 3, none⟩ = false ∧ w.frozen? ⟨ob, 5, none⟩ = false := by
  obtain ⟨a, b, c, s, hx⟩ := h.box
  obtain ⟨z0, z1, z2, z3, z4, z5⟩ := hx.cells
  exact ⟨a, b, c, s, z0, z1, z2, z3, z4, z5, hx.warm 1, hx.warm 2, hx.warm 3, hx.warm 5⟩
theorem Rk.begin {d : Dice} {cb ob rg : Nat} {kv : Int} {w8 : World} (h : Rs d cb ob rg w8) (hb : w8.heap[ob]? = some (.cells (opCells kv 0 0 0 (.slice none 0 0) ⟨#[]⟩) opT (0, 0))) (hk : InI kv) : Rk d cb ob rg kv w8 w8 := by
  have hz : InI 0 := by unfold InI; omega
  exact ⟨h, Dr.refl _ _ _, 0, 0, 0, ⟨#[]⟩, hb, hk, hz, hz, hz, by decide, OwnL.isNil _ _ _ _, (fun n hn => by cases hn), Nat.zero_le _⟩
theorem Rk.fin {d : Dice} {cb ob rg : Nat} {kv : Int} {w8 w : World} (h : Rk d cb ob rg kv w8 w) : Dr d ob w8 w ∧ OpL w ob := by
  obtain ⟨a, b, c, s, hx⟩ := h.box
  exact ⟨h.dr, kv, a, b, c, _, s, _, hx⟩
/-- strings that lie in a new block -/
theorem shorts_alloc (w : World) (L : List ByteArray) (N : Nat) (t : TypeId) (h : ∀ s ∈ L, s.size ≤ N) : Shorts N (w.alloc (.cells (L.map Value.string).toArray t)) (some ⟨w.heap.size, 0, none⟩) L.length := by
  intro i hi
  refine ⟨w.heap.size, 0, L[i], rfl, ?_, h _ (List.getElem_mem hi)⟩
  exact cellsAt_alloc w (L.map Value.string) t i (.string L[i]) (by simp [hi])
theorem one3 : ∀ s ∈ ([⟨#[102]⟩, ⟨#[103]⟩, ⟨#[104]⟩] : List ByteArray), s.size ≤ 1 := by decide
theorem one2 : ∀ s ∈ ([⟨#[99]⟩, ⟨#[107]⟩] : List ByteArray), s.size ≤ 1 := by decide

/-- an operation with a list -/
structure Rl (d : Dice) (cb ob rg : Nat) (w8 w : World) (v : Value) (l : List Int) : Prop where
  low : DcLow d ob
  cbo : cb < ob ∧ cb ≠ d.D
  good : DiceAt d w
  regs : w.cell? ⟨cb, 1, none⟩ = some (.int .i64 (rg : Int))
  dr : Dr d ob w8 w
  box : ∃ k a b c s, OpB w ob k a b c v s l
theorem Rk.rl {d : Dice} {cb ob rg : Nat} {kv : Int} {w8 w : World} (h : Rk d cb ob rg kv w8 w) : Rl d cb ob rg w8 w (.slice none 0 0) [] := by
  obtain ⟨a, b, c, s, hx⟩ := h.box
  exact ⟨h.rs.low, h.rs.cbo, h.rs.good, h.rs.regs, h.dr, kv, a, b, c, s, hx⟩
theorem Rl.fin {d : Dice} {cb ob rg : Nat} {w8 w : World} {v : Value} {l : List Int} (h : Rl d cb ob rg w8 w v l) : Dr d ob w8 w ∧ OpL w ob := by
  obtain ⟨k, a, b, c, s, hx⟩ := h.box
  exact ⟨h.dr, k, a, b, c, v, s, l, hx⟩
theorem Rl.slice {d : Dice} {cb ob rg : Nat} {w8 w : World} {v : Value} {l : List Int} (h : Rl d cb ob rg w8 w v l) : ∃ p n c, v = .slice p n c := by
  obtain ⟨k, a, b, c, s, hx⟩ := h.box
  obtain ⟨p, q, e, -⟩ := hx.own.sla
  exact ⟨p, _, q, e⟩
theorem Rl.lt {d : Dice} {cb ob rg : Nat} {w8 w : World} {v : Value} {l : List Int} (h : Rl d cb ob rg w8 w v l) : ob < w.heap.size := by
  obtain ⟨k, a, b, c, s, hx⟩ := h.box
  exact hx.lt
theorem Rl.own {d : Dice} {cb ob rg : Nat} {w8 w : World} {v : Value} {l : List Int} (h : Rl d cb ob rg w8 w v l) : OwnL encI intT w (ob + 1) v l := by
  obtain ⟨k, a, b, c, s, hx⟩ := h.box
  exact hx.own
theorem OwnL.drI {d : Dice} {s0 B : Nat} {w w' : World} {v : Value} {l : List Int} (h : OwnL encI intT w B v l) (hd : Dr d s0 w w') (hD : d.D < B) (hs : w.heap.size ≤ s0) : OwnL encI intT w' B v l := own_dr h hd hD hs
/-- what stands in the region that appends -/
theorem Rl.cells {d : Dice} {cb ob rg : Nat} {w8 w W : World} {v : Value} {l : List Int} (h : Rl d cb ob rg w8 w v l) (hd : Dr d (ob + 1) w.drew W) : W.cell? ⟨ob, 4, none⟩ = some v ∧ W.cell? ⟨cb, 1, none⟩ = some (.int .i64 (rg : Int)) ∧ W.frozen? ⟨ob, 4, none⟩ = false := by
  obtain ⟨k, a, b, c, s, hx⟩ := h.box
  have hD := h.low.1
  have hc := h.cbo
  have hb : W.heap[ob]? = some (.cells (opCells k a b c v s) opT (0, 0)) := (hd.block ob (by omega) (by omega)).trans hx.box
  refine ⟨by rw [Lib.cell_of_heap hb]; rfl, ?_, Lib.frozen_of_heap hb 4⟩
  rw [World.cell?_of_block (w := w.drew) (a := ⟨cb, 1, none⟩) (hd.block cb (by omega) hc.2)]
  exact h.regs
/-- the longer list is stored -/
theorem Rl.put {d : Dice} {cb ob rg : Nat} {w8 w w2 : World} {v v' : Value} {l : List Int} {n : Int} (h : Rl d cb ob rg w8 w v l) (hd : Dr d (ob + 1) w.drew w2) (ho : OwnL encI intT w2 (ob + 1) v' (l ++ [n])) (hn : InI n) (hlen : l.length ≤ 1) :
    Rl d cb ob rg w8 (w2.setCell ⟨ob, 4, none⟩ v') v' (l ++ [n]) := by
  obtain ⟨k, a, b, c, s, hx⟩ := h.box
  have hD := h.low.1
  have hc := h.cbo
  have hb : w2.heap[ob]? = some (.cells (opCells k a b c v s) opT (0, 0)) := (hd.block ob (by omega) (by omega)).trans hx.box
  have hs := heap_setCell_same w2 ob 4 _ _ v' hb
  have h1 : Dr d ob w w.drew := Dr.of_below ((Below.refl _ _).drew) h.low
  have hset : Dr d ob w2 (w2.setCell ⟨ob, 4, none⟩ v') := set_dr h.low (Nat.le_refl _)
  have hall : Dr d ob w (w2.setCell ⟨ob, 4, none⟩ v') := (h1.trans (hd.mono (by omega))).trans hset
  refine ⟨h.low, h.cbo, hall.good h.good, ?_, h.dr.trans hall, k, a, b, c, s, hs, hx.ki, hx.ai, hx.bi, hx.ci, hx.sz, ?_, ?_, ?_⟩
  · rw [World.cell?_of_block (w := w) (a := ⟨cb, 1, none⟩) (hall.block cb hc.1 hc.2)]; exact h.regs
  · exact OwnL.keepO ho fun g hg => Below.heap_setCell _ _ _ _ (by have := (OwnL.ltO ho g hg).1; show g ≠ ob; omega)
  · intro m hm
    rcases List.mem_append.1 hm with hm | hm
    · exact hx.li m hm
    · rw [List.mem_singleton] at hm; rw [hm]; exact hn
  · rw [List.length_append]; simp; omega

/-! ### the kinds of the region that appends a number -/
def tvNum (n : Nat) (h : 0 < n) : TyV := ⟨{k : Nat // k < n}, ⟨⟨0, h⟩⟩, fun k => .int .i64 (k.1 : Int), fun _ _ => True⟩
theorem tvNum_good (d : Dice) (row : Option Nat) (n : Nat) (h : 0 < n) (c k : Nat) : Good (AD d) (fun x y => x.grownBy y row) c k (tvNum n h) := ⟨fun _ _ _ _ h => h, fun _ _ _ _ _ h => h⟩
theorem tvNum_f (n : Nat) (h : 0 < n) (k : Nat) (hk : k < n) : (tvNum n h).f ⟨k, hk⟩ = .int .i64 (k : Int) := rfl
def tvOneI (d : Dice) (row : Option Nat) : TyV := ⟨{x : Nat × Int // InI x.2}, ⟨⟨(0, 0), by unfold InI; omega⟩⟩, fun x => .slice (some ⟨x.1.1, 0, none⟩) 1 1, fun x w => CellsAt w x.1.1 0 (encI.cells x.1.2) ∧ some x.1.1 ≠ row ∧ x.1.1 < w.heap.size ∧ x.1.1 ≠ d.D⟩
theorem tvOneI_good (d : Dice) (row : Option Nat) (c k : Nat) : Good (AD d) (fun x y => x.grownBy y row) c k (tvOneI d row) :=
  ⟨fun x w w' hl h => ⟨cells_sameO h.1 (hl.block x.1.1 h.2.2.1 h.2.2.2), h.2.1, Nat.lt_of_lt_of_le h.2.2.1 hl.size, h.2.2.2⟩,
   fun _ x w w' hl h => ⟨cells_sameO h.1 (hl.block x.1.1 h.2.2.1 h.2.1), h.2.1, Nat.lt_of_lt_of_le h.2.2.1 hl.size, h.2.2.2⟩⟩
theorem tvOneI_f (d : Dice) (row : Option Nat) (b : Nat) (n : Int) (h : InI n) : (tvOneI d row).f ⟨(b, n), h⟩ = .slice (some ⟨b, 0, none⟩) 1 1 := rfl
theorem tvOneI_mk {d : Dice} {row : Option Nat} {n : Int} {w : World} {c k : Nat} {P : Program} {Pn : Ending → World → Prop} (hn : InI n) (hlow : DcLow d w.heap.size) (hr : ∀ j, row = some j → j < w.heap.size) (h : k ≠ c) :
    oneUpon P (sel (AD d) (fun x y => x.grownBy y row) c k) Pn (tvOneI d row) w (.ok (.value (.slice (some ⟨w.heap.size, 0, none⟩) 1 1)) (w.alloc (.cells #[.int .i64 n] intT))) := by
  refine ⟨?_, ⟨(w.heap.size, n), hn⟩, rfl, cellsAt_alloc w (encI.cells n) intT, fun e => ?_, by simp, fun e => ?_⟩
  · unfold sel; rw [if_neg h]; exact Dr.of_below (below_box w _) hlow
  · have := hr _ e.symm; simp only at this; omega
  · have := hlow.1; simp only at e; omega
def tvAppI (base : Nat) (l : List Int) : TyV := ⟨{x : Value × Int // InI x.2}, ⟨⟨(undef, 0), by unfold InI; omega⟩⟩, fun x => x.1.1, fun x w => OwnL encI intT w base x.1.1 (l ++ [x.1.2])⟩
theorem tvAppI_good (d : Dice) (row : Option Nat) (base : Nat) (l : List Int) (c : Nat) (hD : d.D < base) : Good (AD d) (fun x y => x.grownBy y row) c c (tvAppI base l) :=
  ⟨fun x w w' hl h => OwnL.drI h hl hD (Nat.le_refl _), fun hk => absurd rfl hk⟩
theorem tvAppI_f (base : Nat) (l : List Int) (v : Value) (n : Int) (h : InI n) : (tvAppI base l).f ⟨(v, n), h⟩ = v := rfl
theorem tvAppI_mk {d : Dice} {row : Option Nat} {base c sb : Nat} {l : List Int} {n : Int} {v : Value} {w : World} {Pn : Ending → World → Prop} (hn : InI n) (hv : OwnL encI intT w base v l) (hrow : row = v.ownBlock) (hx : CellsAt w sb 0 (encI.cells n)) (hl : l.length ≤ 100) (hb : base ≤ w.heap.size) (ty : TypeId) :
    ∃ v' w', (Builtin.append_ #[25, 25] ty #[v, .slice (some ⟨sb, 0, none⟩) 1 1]).run Tryd.prog w = .ok v' w' ∧ oneUpon Tryd.prog (sel (AD d) (fun x y => x.grownBy y row) c c) Pn (tvAppI base l) w (.ok (.value v') w') := by
  obtain ⟨i0, hi0, hz0, hz1, hz2⟩ := info_parts info_i
  obtain ⟨v', w', hr, h2, h3, _, h5⟩ := run_append_own_at (P := Tryd.prog) w base 25 ty intT i0 (.int .i64 0) 1 8 Tryd.underlying25 hi0 hz0 hz1 hz2 rfl (by decide) v l.length (encI.all l) hv ⟨sb, 0, none⟩ 1 1 (encI.cells n) rfl (fun j u hj => by rw [add_lit]; exact hx j u hj) (fun u hu => encI.one n u hu) (by unfold maxLen; omega) (by omega) hb
  subst hrow
  refine ⟨v', w', hr, ?_, ⟨(v', n), hn⟩, rfl, ?_⟩
  · unfold sel; rw [if_pos rfl]; exact h3
  · show OwnL encI intT w' base v' (l ++ [n])
    unfold OwnL
    rw [List.length_append, encI.all_append, show encI.all [n] = encI.cells n by simp [Enc.all]]
    exact h2
theorem results_cell1 {fn : Func} {t : Tmp} {ty : TypeId} (h : fn.results = #[.cell t ty]) (tmps : Array Value) (P : Program) (w : World) (a : Addr) (v : Value) (ht : tmps.getD t undef = .pointer (some a)) (hl : (loadVar ty a).run P w = .ok v w) :
    (results fn tmps).run P w = .ok v w := by
  have ht' : tmps[t]?.getD undef = .pointer (some a) := by simpa using ht
  simp [results, h, ht', asAddr, hl]

/-! ### the kinds of the last append -/
/-- the last operation: it returns what lies in a register -/
def retO (n : Int) : Rop := (⟨18, 0, n, 0, [], ⟨#[]⟩⟩, none, 0)
theorem retO_cells (n : Int) : encOp.cells (retO n) = [.int .i64 18, .int .i64 0, .int .i64 n, .int .i64 0, .slice none 0 0, .string ⟨#[]⟩] := rfl
theorem retO_sla (n : Int) (A : Nat → Prop) (w : World) : SlA encI A w (retO n).sl (retO n).1.list := SlA.isNil _ _ _
def tvRet (n : Nat) (h : 0 < n) : TyV := ⟨{k : Nat // k < n}, ⟨⟨0, h⟩⟩, fun k => .agg #[.int .i64 18, .int .i64 0, .int .i64 (k.1 : Int), .int .i64 0, .slice none 0 0, .string ⟨#[]⟩], fun _ _ => True⟩
theorem tvRet_good (d : Dice) (row : Option Nat) (n : Nat) (h : 0 < n) (c k : Nat) : Good (AD d) (fun x y => x.grownBy y row) c k (tvRet n h) := ⟨fun _ _ _ _ h => h, fun _ _ _ _ _ h => h⟩
theorem tvRet_f (n : Nat) (h : 0 < n) (k : Nat) (hk : k < n) : (tvRet n h).f ⟨k, hk⟩ = .agg #[.int .i64 18, .int .i64 0, .int .i64 (k : Int), .int .i64 0, .slice none 0 0, .string ⟨#[]⟩] := rfl
def tvOneR (d : Dice) (row : Option Nat) : TyV := ⟨{x : Nat × Int // InI x.2}, ⟨⟨(0, 0), by unfold InI; omega⟩⟩, fun x => .slice (some ⟨x.1.1, 0, none⟩) 1 1, fun x w => CellsAt w x.1.1 0 (encOp.cells (retO x.1.2)) ∧ some x.1.1 ≠ row ∧ x.1.1 < w.heap.size ∧ x.1.1 ≠ d.D⟩
theorem tvOneR_good (d : Dice) (row : Option Nat) (c k : Nat) : Good (AD d) (fun x y => x.grownBy y row) c k (tvOneR d row) :=
  ⟨fun x w w' hl h => ⟨cells_sameO h.1 (hl.block x.1.1 h.2.2.1 h.2.2.2), h.2.1, Nat.lt_of_lt_of_le h.2.2.1 hl.size, h.2.2.2⟩,
   fun _ x w w' hl h => ⟨cells_sameO h.1 (hl.block x.1.1 h.2.2.1 h.2.1), h.2.1, Nat.lt_of_lt_of_le h.2.2.1 hl.size, h.2.2.2⟩⟩
theorem tvOneR_f (d : Dice) (row : Option Nat) (b : Nat) (n : Int) (h : InI n) : (tvOneR d row).f ⟨(b, n), h⟩ = .slice (some ⟨b, 0, none⟩) 1 1 := rfl
theorem tvOneR_mk {d : Dice} {row : Option Nat} {n : Int} {w : World} {c k : Nat} {P : Program} {Pn : Ending → World → Prop} (hn : InI n) (hlow : DcLow d w.heap.size) (hr : ∀ j, row = some j → j < w.heap.size) (h : k ≠ c) :
    oneUpon P (sel (AD d) (fun x y => x.grownBy y row) c k) Pn (tvOneR d row) w (.ok (.value (.slice (some ⟨w.heap.size, 0, none⟩) 1 1)) (w.alloc (.cells #[.int .i64 18, .int .i64 0, .int .i64 n, .int .i64 0, .slice none 0 0, .string ⟨#[]⟩] opT))) := by
  refine ⟨?_, ⟨(w.heap.size, n), hn⟩, rfl, cellsAt_alloc w (encOp.cells (retO n)) opT, fun e => ?_, by simp, fun e => ?_⟩
  · unfold sel; rw [if_neg h]; exact Dr.of_below (below_box w _) hlow
  · have := hr _ e.symm; simp only at this; omega
  · have := hlow.1; simp only at e; omega
def tvAppR (base : Nat) (R : List Rop) : TyV := ⟨{x : Value × Int // InI x.2}, ⟨⟨(undef, 0), by unfold InI; omega⟩⟩, fun x => x.1.1, fun x w => OpsRow w base x.1.1 (R ++ [retO x.1.2])⟩
theorem OpsRow.drR {d : Dice} {w w' : World} {base s0 : Nat} {v : Value} {R : List Rop} (h : OpsRow w base v R) (hd : Dr d s0 w w') (hD : d.D < base) (hs : w.heap.size ≤ s0) : OpsRow w' base v R :=
  ⟨own_dr h.own hd hD hs, fun r hr => ((h.at_ r hr).here.keep (w' := w') (fun a u ha hc => by rw [World.cell?_of_block (w := w) (hd.block a.block (by have := ha.2; omega) (by have := ha.1.1; omega))]; exact hc)).mono (fun k hk => hk.1)⟩
theorem tvAppR_good (d : Dice) (row : Option Nat) (base : Nat) (R : List Rop) (c : Nat) (hD : d.D < base) : Good (AD d) (fun x y => x.grownBy y row) c c (tvAppR base R) :=
  ⟨fun x w w' hl h => OpsRow.drR h hl hD (Nat.le_refl _), fun hk => absurd rfl hk⟩
theorem tvAppR_f (base : Nat) (R : List Rop) (v : Value) (n : Int) (h : InI n) : (tvAppR base R).f ⟨(v, n), h⟩ = v := rfl
theorem tvAppR_mk {d : Dice} {row : Option Nat} {base c sb : Nat} {R : List Rop} {n : Int} {v : Value} {w : World} {Pn : Ending → World → Prop} (hn : InI n) (hv : OpsRow w base v R) (hrow : row = v.ownBlock) (hx : CellsAt w sb 0 (encOp.cells (retO n))) (hl : R.length ≤ 1000) (hb : base ≤ w.heap.size) (ty : TypeId) :
    ∃ v' w', (Builtin.append_ #[22, 22] ty #[v, .slice (some ⟨sb, 0, none⟩) 1 1]).run Tryd.prog w = .ok v' w' ∧ oneUpon Tryd.prog (sel (AD d) (fun x y => x.grownBy y row) c c) Pn (tvAppR base R) w (.ok (.value v') w') := by
  obtain ⟨i0, hi0, hz0, hz1, hz2⟩ := info_parts info_op
  obtain ⟨v', w', hr, h2, h3, _, h5⟩ := run_append_own_at (P := Tryd.prog) w base 22 ty opT i0 (.agg #[.int .i64 0, .int .i64 0, .int .i64 0, .int .i64 0, .slice none 0 0, .string ⟨#[]⟩]) 6 72 Tryd.underlying22 hi0 hz0 hz1 hz2 rfl (by decide) v R.length (encOp.all R) hv.own ⟨sb, 0, none⟩ 1 1 (encOp.cells (retO n)) rfl (fun j u hj => by rw [add_lit]; exact hx j u hj) (fun u hu => encOp.one (retO n) u hu) (by unfold maxLen; omega) (by omega) hb
  subst hrow
  refine ⟨v', w', hr, ?_, ⟨(v', n), hn⟩, rfl, ?_⟩
  · unfold sel; rw [if_pos rfl]; exact h3
  · refine hv.push h3 ?_ h5 (retO_sla _ _ _)
    unfold OwnL
    rw [List.length_append, encOp.all_append, show encOp.all [retO n] = encOp.cells (retO n) by simp [Enc.all]]
    exact h2
/-- a small operation -/
structure Opp.Small (o : Opp) : Prop where
  ok : o.Ok
  few : o.list.length ≤ 2
  sz : o.sym.size ≤ 1
structure Cdd.Small (x : Cdd) : Prop where
  ok : x.Ok
  some : 0 < x.ops.length
  few : x.ops.length ≤ 15
  ops : ∀ o ∈ x.ops, o.Small
/-- an operation as it lies: small, and what is nil has no room -/
def RSmall (r : Rop) : Prop := r.1.Small ∧ (r.2.1 = none → r.2.2 = 0)
/-- a code as dice leave it -/
def CdM (A : Nat → Prop) (w : World) (v : Value) (x : Cdd) : Prop := ∃ p c, v = .agg #[.int .i64 x.params, .int .i64 x.regs, .slice p x.ops.length c] ∧ ∃ R : List Rop, R.map (·.1) = x.ops ∧ SlA encOp A w (.slice p x.ops.length c) R ∧ (∀ r ∈ R, SlA encI A w r.sl r.1.list) ∧ ∀ r ∈ R, RSmall r
theorem CdM.cd {A : Nat → Prop} {w : World} {v : Value} {x : Cdd} (h : CdM A w v x) : CdA A w v x := by
  obtain ⟨p, c, h1, R, h2, h3, h4, -⟩ := h
  exact ⟨p, c, h1, R, h2, h3, h4⟩
theorem OwnL.nil0 {α : Type} {E : Enc α} {t : TypeId} {w : World} {B : Nat} {p : Option Addr} {n c : Nat} {L : List α} (h : OwnL E t w B (.slice p n c) L) : p = none → c = 0 := by
  intro e
  subst e
  obtain ⟨_, ⟨hv, _⟩ | ⟨g', cap, cur, hv, _⟩⟩ := h
  · injection hv
  · injection hv with hv _ _; cases hv
end Go.Proofs.YthikdkeanndidaaDoor
