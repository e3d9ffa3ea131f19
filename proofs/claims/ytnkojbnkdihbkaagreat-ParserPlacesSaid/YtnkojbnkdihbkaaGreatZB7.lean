/-
  CONTRACTS: (*Dice).Edit.
-/
import Derived.Test.YtnkojbnkdihbkaaGreatZB6
import Derived.Deep.CutRange
import Derived.Test.YtnkojbnkdihbkaaGreatZB5
import Derived.ChangeSlices
import Derived.OpenShut
import Derived.WalkKit
import Derived.ProofKit
namespace Go.Proofs.YtnkojbnkdihbkaaGreat
open Go Go.RowKit
set_option linter.unusedVariables false
set_option linter.unusedSimpArgs false

attribute [local go_sem] tyIs_f tyNum_f tyStr_f

theorem thrown_new {d : Dice} {w : World} (h : DiceAt d w) (o : Obj) : Thrown d w (w.alloc o) := by
  have hs := h.still (But.alloc (M := fun _ => False) w o) (fun _ _ _ _ q => q) (fun _ q => q)
  exact ⟨But.alloc w o, hs.1, Nat.le_of_eq hs.2.symm⟩

theorem heap_lt {w : World} {k : Nat} {o : Obj} (hk : w.heap[k]? = some o) : k < w.heap.size := by
  by_cases hlt : k < w.heap.size
  · exact hlt
  · rw [Array.getElem?_eq_none (by omega)] at hk; cases hk
/-- an edit as it lies -/
def edC (m : ByteArray) (a c : Int) (tx : ByteArray) : Array Value := #[.string m, .int .i64 a, .int .i64 c, .string tx]
theorem thrown_block {d : Dice} {w w' : World} {k : Nat} {o : Obj} (h : Thrown d w w') (hk : w.heap[k]? = some o) (hd : k ≠ d.D) : w'.heap[k]? = some o := by
  have hlt : k < w.heap.size := by
    by_cases hlt : k < w.heap.size
    · exact hlt
    · rw [Array.getElem?_eq_none (by omega)] at hk; cases hk
  rw [h.but.block k hlt (fun a ha q => by unfold isAt at q; subst q; exact hd ha.symm)]
  exact hk

/-- the result's cell, and the module that was drawn -/
structure Ed (d : Dice) (w0 : World) (sb : Nat) (x : Src) (w : World) : Prop where
  thr : Thrown d w0 w
  dlo : d.D < w0.heap.size
  lo : w0.heap.size < sb
  row : ∀ b o, d.p = some ⟨b, o, none⟩ → b < w0.heap.size
  r : w.heap[w0.heap.size]? = some (.cells (edC ⟨#[]⟩ 0 0 ⟨#[]⟩) 84 (0, 0))
  s : w.heap[sb]? = some (.cells #[.string x.1, .string x.2] 46 (0, 0))
theorem Ed.keep {d : Dice} {w0 : World} {sb : Nat} {x : Src} {w w' : World} (h : Ed d w0 sb x w) (t : Thrown d w w') : Ed d w0 sb x w' := by
  have h1 := h.dlo
  have h2 := h.lo
  exact ⟨h.thr.trans t, h1, h2, h.row, thrown_block t h.r (by omega), thrown_block t h.s (by omega)⟩
theorem Ed.s0 {d : Dice} {w0 : World} {sb : Nat} {x : Src} {w : World} (h : Ed d w0 sb x w) : w.cell? ⟨sb, 0, none⟩ = some (.string x.1) := by rw [Lib.cell_of_heap h.s]; rfl
theorem Ed.s1 {d : Dice} {w0 : World} {sb : Nat} {x : Src} {w : World} (h : Ed d w0 sb x w) : w.cell? ⟨sb, 1, none⟩ = some (.string x.2) := by rw [Lib.cell_of_heap h.s]; rfl

theorem Ed.set {d : Dice} {w0 : World} {sb eb : Nat} {x : Src} {w : World} {cur : Array Value} {t : TypeId} (h : Ed d w0 sb x w) (hlt : sb < eb) (he : w.heap[eb]? = some (.cells cur t (0, 0))) (i : Nat) (v : Value) :
    Ed d w0 sb x (w.setCell ⟨eb, i, none⟩ v) ∧ (w.setCell ⟨eb, i, none⟩ v).heap[eb]? = some (.cells (cur.setIfInBounds i v) t (0, 0)) := by
  have h1 := h.dlo
  have h2 := h.lo
  have hb : But (fun a => a.block = eb) w (w.setCell ⟨eb, i, none⟩ v) := But.setCell w _ _ rfl
  have hs := h.thr.good.still hb (fun b o j e => by have := h.row b o e; show ¬ b = eb; omega) (fun j => by show ¬ d.D = eb; omega)
  refine ⟨⟨⟨h.thr.but.setCell_new _ _ (by show w0.heap.size ≤ eb; omega), hs.1, by rw [hs.2]; exact h.thr.le⟩, h1, h2, h.row, ?_, ?_⟩, heap_setCell_same _ _ _ _ _ _ he⟩
  · rw [Below.heap_setCell _ _ _ _ (by show w0.heap.size ≠ eb; omega)]; exact h.r
  · rw [Below.heap_setCell _ _ _ _ (by show sb ≠ eb; omega)]; exact h.s

/-- the edit that is being made -/
structure Ee (d : Dice) (w0 : World) (sb : Nat) (x : Src) (eb : Nat) (m : ByteArray) (a c : Int) (tx : ByteArray) (w : World) : Prop where
  ed : Ed d w0 sb x w
  lt : sb < eb
  e : w.heap[eb]? = some (.cells (edC m a c tx) 84 (0, 0))
theorem Ee.keep {d : Dice} {w0 : World} {sb eb : Nat} {x : Src} {m tx : ByteArray} {a c : Int} {w w' : World} (h : Ee d w0 sb x eb m a c tx w) (t : Thrown d w w') : Ee d w0 sb x eb m a c tx w' :=
  ⟨h.ed.keep t, h.lt, thrown_block t h.e (by have := h.ed.dlo; have := h.ed.lo; have := h.lt; omega)⟩
theorem Ee.cells {d : Dice} {w0 : World} {sb eb : Nat} {x : Src} {m tx : ByteArray} {a c : Int} {w : World} (h : Ee d w0 sb x eb m a c tx w) :
    w.cell? ⟨eb, 0, none⟩ = some (.string m) ∧ w.cell? ⟨eb, 1, none⟩ = some (.int .i64 a) ∧ w.cell? ⟨eb, 2, none⟩ = some (.int .i64 c) ∧ w.cell? ⟨eb, 3, none⟩ = some (.string tx) ∧ ∀ i, w.frozen? ⟨eb, i, none⟩ = false :=
  ⟨by rw [Lib.cell_of_heap h.e]; rfl, by rw [Lib.cell_of_heap h.e]; rfl, by rw [Lib.cell_of_heap h.e]; rfl, by rw [Lib.cell_of_heap h.e]; rfl, fun i => Lib.frozen_of_heap h.e i⟩
theorem Ee.count {d : Dice} {w0 : World} {sb eb : Nat} {x : Src} {m tx : ByteArray} {a c : Int} {w : World} (h : Ee d w0 sb x eb m a c tx w) (c2 : Int) : Ee d w0 sb x eb m a c2 tx (w.setCell ⟨eb, 2, none⟩ (.int .i64 c2)) := by
  obtain ⟨h1, h2⟩ := h.ed.set h.lt h.e 2 (.int .i64 c2)
  exact ⟨h1, h.lt, h2⟩
theorem Ee.text {d : Dice} {w0 : World} {sb eb : Nat} {x : Src} {m tx : ByteArray} {a c : Int} {w : World} (h : Ee d w0 sb x eb m a c tx w) (t2 : ByteArray) : Ee d w0 sb x eb m a c t2 (w.setCell ⟨eb, 3, none⟩ (.string t2)) := by
  obtain ⟨h1, h2⟩ := h.ed.set h.lt h.e 3 (.string t2)
  exact ⟨h1, h.lt, h2⟩
theorem Ed.edit {d : Dice} {w0 : World} {sb eb : Nat} {x : Src} {w : World} (h : Ed d w0 sb x w) (hlt : sb < eb) (he : w.heap[eb]? = some (.cells (edC ⟨#[]⟩ 0 0 ⟨#[]⟩) 84 (0, 0))) (m tx : ByteArray) (a c : Int) :
    Ee d w0 sb x eb m a c tx ((((w.setCell ⟨eb, 0, none⟩ (.string m)).setCell ⟨eb, 1, none⟩ (.int .i64 a)).setCell ⟨eb, 2, none⟩ (.int .i64 c)).setCell ⟨eb, 3, none⟩ (.string tx)) := by
  obtain ⟨h1, e1⟩ := h.set hlt he 0 (.string m)
  obtain ⟨h2, e2⟩ := h1.set hlt e1 1 (.int .i64 a)
  obtain ⟨h3, e3⟩ := h2.set hlt e2 2 (.int .i64 c)
  obtain ⟨h4, e4⟩ := h3.set hlt e3 3 (.string tx)
  exact ⟨h4, hlt, e4⟩

/-- the dice alone go on -/
def LeE (d : Dice) (w0 : World) (sb : Nat) (x : Src) (w w' : World) : Prop := Ed d w0 sb x w → Thrown d w w'
theorem LeE.refl (d : Dice) (w0 : World) (sb : Nat) (x : Src) (w : World) : LeE d w0 sb x w w := fun h => Thrown.refl h.thr.good
theorem LeE.trans (d : Dice) (w0 : World) (sb : Nat) (x : Src) (a b c : World) (h : LeE d w0 sb x a b) (k : LeE d w0 sb x b c) : LeE d w0 sb x a c := fun e => (h e).trans (k (e.keep (h e)))

/-- a new edit, all zero -/
def tyEd (d : Dice) (w0 : World) (sb : Nat) (x : Src) : Ty (LeE d w0 sb x) := ⟨{b : Nat // True}, ⟨⟨0, trivial⟩⟩, fun b => .pointer (some ⟨b.1, 0, none⟩), fun b w => Ed d w0 sb x w ∧ sb < b.1 ∧ w.heap[b.1]? = some (.cells (edC ⟨#[]⟩ 0 0 ⟨#[]⟩) 84 (0, 0)),
  fun b w w' hl h => ⟨h.1.keep (hl h.1), h.2.1, thrown_block (hl h.1) h.2.2 (by have := h.1.dlo; have := h.1.lo; have := h.2.1; omega)⟩⟩
theorem tyEd_f (d : Dice) (w0 : World) (sb : Nat) (x : Src) (b : Nat) (hb : True) : (tyEd d w0 sb x).f ⟨b, hb⟩ = .pointer (some ⟨b, 0, none⟩) := rfl
theorem tyEd_p (d : Dice) (w0 : World) (sb : Nat) (x : Src) (b : Nat) (hb : True) (w : World) : (tyEd d w0 sb x).φ ⟨b, hb⟩ w = (Ed d w0 sb x w ∧ sb < b ∧ w.heap[b]? = some (.cells (edC ⟨#[]⟩ 0 0 ⟨#[]⟩) 84 (0, 0))) := rfl
theorem pos9 : 0 < 9 := by decide
/-- the smaller one -/
def tyMin (Le : World → World → Prop) (n : Nat) : Ty Le := tyOf Le (α := {k : Nat // k ≤ n}) ⟨⟨0, Nat.zero_le _⟩⟩ (fun k => .int .i64 (k.1 : Int))
theorem tyMin_f (Le : World → World → Prop) (n : Nat) (k : Nat) (hk : k ≤ n) : (tyMin Le n).f ⟨k, hk⟩ = .int .i64 (k : Int) := rfl
theorem min_rel {P : Program} {Le : World → World → Prop} {w : World} (hr : Le w w) {n a : Nat} (k : Nat) (h : a ≤ n) :
    relUpon P Le (tyMin Le (n - a)) w (.ok (.value (.int .i64 (if (n : Int) - (a : Int) < (k : Int) then (n : Int) - (a : Int) else (k : Int)))) w) := by
  by_cases hc : (n : Int) - (a : Int) < (k : Int)
  · rw [if_pos hc]
    exact ⟨hr, ⟨n - a, Nat.le_refl _⟩, by rw [tyMin_f, Int.ofNat_sub h], trivial⟩
  · rw [if_neg hc]
    exact ⟨hr, ⟨k, by omega⟩, by rw [tyMin_f], trivial⟩
theorem thrown_setNew {d : Dice} {w0 w : World} (h : Thrown d w0 w) (hD : d.D < w0.heap.size) (hrow : ∀ b o, d.p = some ⟨b, o, none⟩ → b < w0.heap.size) (b i : Nat) (hb : w0.heap.size ≤ b) (v : Value) : Thrown d w0 (w.setCell ⟨b, i, none⟩ v) := by
  have hbut : But (fun a => a.block = b) w (w.setCell ⟨b, i, none⟩ v) := But.setCell w _ _ rfl
  have hs := h.good.still hbut (fun b' o j e => by have := hrow b' o e; show ¬ b' = b; omega) (fun j => by show ¬ d.D = b; omega)
  exact ⟨h.but.setCell_new _ _ (by show w0.heap.size ≤ b; omega), hs.1, by rw [hs.2]; exact h.le⟩
/-- an edit of one of the modules, that is possible -/
def EdPost (d : Dice) (n : Nat) (L : List Src) (w : World) (e : Ending) (w' : World) : Prop :=
  ∃ (k : Nat) (m s tx : ByteArray) (a c : Nat), k < n ∧ L.getD k empty2 = (m, s) ∧ a + c ≤ s.size ∧ tx.size ≤ 32 ∧ e = .returned (.agg #[.string m, .int .i64 (a : Int), .int .i64 (c : Int), .string tx]) ∧ Thrown d w w'
theorem Ed.result {d : Dice} {w0 : World} {sb : Nat} {x : Src} {w : World} (h : Ed d w0 sb x w) (v0 v1 v2 v3 : Value) :
    Thrown d w0 ((((w.setCell ⟨w0.heap.size, 0, none⟩ v0).setCell ⟨w0.heap.size, 1, none⟩ v1).setCell ⟨w0.heap.size, 2, none⟩ v2).setCell ⟨w0.heap.size, 3, none⟩ v3) := by
  have h1 := thrown_setNew h.thr h.dlo h.row w0.heap.size 0 (Nat.le_refl _) v0
  have h2 := thrown_setNew h1 h.dlo h.row w0.heap.size 1 (Nat.le_refl _) v1
  have h3 := thrown_setNew h2 h.dlo h.row w0.heap.size 2 (Nat.le_refl _) v2
  exact thrown_setNew h3 h.dlo h.row w0.heap.size 3 (Nat.le_refl _) v3
theorem Ed.rcells {d : Dice} {w0 : World} {sb : Nat} {x : Src} {w : World} (h : Ed d w0 sb x w) :
    w.cell? ⟨w0.heap.size, 0, none⟩ = some (.string ⟨#[]⟩) ∧ w.cell? ⟨w0.heap.size, 1, none⟩ = some (.int .i64 0) ∧ w.cell? ⟨w0.heap.size, 2, none⟩ = some (.int .i64 0) ∧ w.cell? ⟨w0.heap.size, 3, none⟩ = some (.string ⟨#[]⟩) ∧ ∀ i, w.frozen? ⟨w0.heap.size, i, none⟩ = false :=
  ⟨by rw [Lib.cell_of_heap h.r]; rfl, by rw [Lib.cell_of_heap h.r]; rfl, by rw [Lib.cell_of_heap h.r]; rfl, by rw [Lib.cell_of_heap h.r]; rfl, fun i => Lib.frozen_of_heap h.r i⟩
theorem results_cellE {fn : Func} {t : Tmp} {ty : TypeId} (h : fn.results = #[.cell t ty]) (tmps : Array Value) (P : Program) (w : World) (a : Addr) (v : Value) (ht : tmps.getD t undef = .pointer (some a)) (hl : (loadVar ty a).run P w = .ok v w) :
    (results fn tmps).run P w = .ok v w := by
  have ht' : tmps[t]?.getD undef = .pointer (some a) := by simpa using ht
  simp [results, h, ht', asAddr, hl]
theorem load_edit (W : World) (b : Nat) (m tx : ByteArray) (a c : Int) (h : W.heap[b]? = some (.cells (edC m a c tx) 84 (0, 0))) :
    (loadVar 84 ⟨b, 0, none⟩).run Tryz.prog W = .ok (.agg (edC m a c tx)) W := by
  have c0 : W.cell? ⟨b, 0, none⟩ = some (.string m) := by rw [Lib.cell_of_heap h]; rfl
  have c1 : W.cell? ⟨b, 1, none⟩ = some (.int .i64 a) := by rw [Lib.cell_of_heap h]; rfl
  have c2 : W.cell? ⟨b, 2, none⟩ = some (.int .i64 c) := by rw [Lib.cell_of_heap h]; rfl
  have c3 : W.cell? ⟨b, 3, none⟩ = some (.string tx) := by rw [Lib.cell_of_heap h]; rfl
  unfold edC
  go_simp
theorem Ed.resultC {d : Dice} {w0 : World} {sb : Nat} {x : Src} {w : World} (h : Ed d w0 sb x w) (m tx : ByteArray) (a c : Int) :
    ((((w.setCell ⟨w0.heap.size, 0, none⟩ (.string m)).setCell ⟨w0.heap.size, 1, none⟩ (.int .i64 a)).setCell ⟨w0.heap.size, 2, none⟩ (.int .i64 c)).setCell ⟨w0.heap.size, 3, none⟩ (.string tx)).heap[w0.heap.size]? = some (.cells (edC m a c tx) 84 (0, 0)) :=
  heap_setCell_same _ _ _ _ _ _ (heap_setCell_same _ _ _ _ _ _ (heap_setCell_same _ _ _ _ _ _ (heap_setCell_same _ _ _ _ _ _ h.r)))
theorem thrown_below {d : Dice} {w w' : World} (h : DiceAt d w) (hb : Below w.heap.size w w') : Thrown d w w' := by
  have hs := h.still (But.of_below (M := fun _ => False) hb) (fun _ _ _ _ q => q) (fun _ q => q)
  exact ⟨But.of_below hb, hs.1, Nat.le_of_eq hs.2.symm⟩
/-- a digit for a digit -/
def tyDig (Le : World → World → Prop) (nm : ByteArray) (q : Nat) : Ty Le := tyOf Le (α := {x : ByteArray // x.size ≤ 1}) ⟨⟨ByteArray.empty, Nat.zero_le _⟩⟩ (fun x => .agg #[.string nm, .int .i64 (q : Int), .int .i64 1, .string x.1])
theorem tyDig_f (Le : World → World → Prop) (nm : ByteArray) (q : Nat) (x : ByteArray) (hx : x.size ≤ 1) : (tyDig Le nm q).f ⟨x, hx⟩ = .agg #[.string nm, .int .i64 (q : Int), .int .i64 1, .string x] := rfl
/-- an edit at a place -/
def tyAgg (Le : World → World → Prop) (nm : ByteArray) (n : Nat) (h : 0 < n) : Ty Le := tyOf Le (α := {k : Nat // k < n}) ⟨⟨0, h⟩⟩ (fun k => .agg #[.string nm, .int .i64 (k.1 : Int), .int .i64 0, .string ⟨#[]⟩])
theorem tyAgg_f (Le : World → World → Prop) (nm : ByteArray) (n : Nat) (h : 0 < n) (k : Nat) (hk : k < n) : (tyAgg Le nm n h).f ⟨k, hk⟩ = .agg #[.string nm, .int .i64 (k : Int), .int .i64 0, .string ⟨#[]⟩] := rfl

set_option maxRecDepth 100000 in
set_option maxHeartbeats 2000000 in
theorem edit_any (d : Dice) (p : Option Addr) (n cap : Nat) (L : List Src) (w : World) (hd : DiceAt d w) (h0 : 0 < n) (h1 : n ≤ 1000000) (hl : SrcIs w (.slice p n cap) L) (hL : ∀ j, j < L.length → (L.getD j empty2).2.size ≤ 100000) (hp : ∀ b o, p = some ⟨b, o, none⟩ → b ≠ d.D) (hrow : ∀ b o, d.p = some ⟨b, o, none⟩ → b < w.heap.size) :
    Calls Tryz.prog 50 #[.pointer (some ⟨d.D, 0, none⟩), .slice p n cap] w fun e w' => EdPost d n L w e w' := by
  have HD := Lib.hid hd
  have HX := Lib.hid hL
  have hne : ¬ n = 0 := by omega
  obtain ⟨hn, _, _, hlies⟩ := hl.lies
  obtain ⟨b, off, rfl, hcells⟩ := hlies h0
  have hbD := hp b off rfl
  have HC : Hid (∀ k, k < n → w.cell? ⟨b, off + k * 2, none⟩ = some (.string (L.getD k empty2).1) ∧ w.cell? ⟨b, off + k * 2 + 1, none⟩ = some (.string (L.getD k empty2).2)) := fun k hk => ⟨hcells.name k (by omega), hcells.text k (by omega)⟩
  have Hn := Lib.hid hn
  have hDlt : Hid (d.D < w.heap.size) := (World.block_lt_of_cell? w _ hd.at_ : d.D < w.heap.size)
  have HROW := Lib.hid hrow
  clear hd hl hL hp hcells hlies hn hrow
  go_enter Tryz.func50, Tryz.ntmps50
  go_wp2_with fail
  have T0 : Thrown d w (w.alloc (.cells (edC ⟨#[]⟩ 0 0 ⟨#[]⟩) 84)) := thrown_new HD.out _
  refine (next_any d n _ T0.good (by omega) h1).mono ?_
  rintro e w1 ⟨k, hk, rfl, ht, -⟩
  have c0 := (T0.trans ht).but.keep (HC.out k hk).1 (fun q => by unfold isAt at q; injection q with q _ _; exact hbD q)
  have c1 := (T0.trans ht).but.keep (HC.out k hk).2 (fun q => by unfold isAt at q; injection q with q _ _; exact hbD q)
  have hk2 : (L.getD k empty2).2.size ≤ 100000 := HX.out k (by rw [← Hn.out]; exact hk)
  have T1 := T0.trans ht
  have hR : w1.heap[w.heap.size]? = some (.cells (edC ⟨#[]⟩ 0 0 ⟨#[]⟩) 84 (0, 0)) := thrown_block ht (heap_alloc_new w _) (by have := hDlt.out; omega)
  have hs1 : w.heap.size < w1.heap.size := by have := ht.but.size; simp at this; omega
  generalize hxe : L.getD k empty2 = x at *
  have hEd : Ed d w w1.heap.size x (w1.alloc (.cells #[.string x.1, .string x.2] 46)) := by
    have T2 := thrown_new T1.good (.cells #[.string x.1, .string x.2] 46)
    exact ⟨T1.trans T2, hDlt.out, hs1, HROW.out, thrown_block T2 hR (by have := hDlt.out; omega), heap_alloc_new w1 _⟩
  have HED := Lib.hid hEd
  have HT1 := Lib.hid T1
  clear T0 ht T1 hR hs1 hEd
  have hki : (k : Int) < (n : Int) := by omega
  obtain ⟨nm, s⟩ := x
  have HXE := Lib.hid hxe
  clear hxe
  simp only at c0 c1 hk2
  go_wp2_with fail
  clear c0 c1 HT1
  generalize hsb : w1.heap.size = sb at *
  generalize w1.alloc (.cells #[.string (nm, s).1, .string (nm, s).2] 46) = w2 at *
  have E2 : Hid (Ed d w sb (nm, s) w2.drew) := HED.out.keep (thrown_drewN HED.out.thr.good 1)
  have hsum : IntKind.i64.wrap ((s.size : Int) + 1) = (s.size : Int) + 1 := IntWalk.i64_in _ (by omega)
  apply wp_region_relT (LeE.refl d w sb (nm, s)) (LeE.trans d w sb (nm, s)) 10
  case hm => kernel_rfl
  case hB => kernel_rfl
  simp only [List.take_succ_cons, List.take_zero, List.drop_succ_cons, List.drop_zero]
  apply wpRel_cons (t := tyIs _ _)
  case h1 => (intro w' hl hd; have EW := E2.out.keep (hl E2.out); clear hl hd; unfold relAt; go_simp; exact rel_is (LeE.refl d w sb (nm, s)))
  intro _
  rw [tyIs_f]
  go_simp
  apply wpRel_cons (t := tyIs _ (.string nm))
  case h1 => (intro w' hl hd; have EW := E2.out.keep (hl E2.out); clear hl hd; have hc := EW.s0; unfold relAt; go_simp; exact rel_is (LeE.refl d w sb (nm, s)))
  intro _
  rw [tyIs_f]
  go_simp
  apply wpRel_cons (t := tyIs _ _)
  case h1 => (intro w' hl hd; have EW := E2.out.keep (hl E2.out); clear hl hd; unfold relAt; go_simp; exact rel_is (LeE.refl d w sb (nm, s)))
  intro _
  rw [tyIs_f]
  go_simp
  apply wpRel_cons (t := tyIs _ _)
  case h1 => (intro w' hl hd; have EW := E2.out.keep (hl E2.out); clear hl hd; unfold relAt; go_simp; exact rel_is (LeE.refl d w sb (nm, s)))
  intro _
  rw [tyIs_f]
  go_simp
  apply wpRel_cons (t := tyIs _ (.string s))
  case h1 => (intro w' hl hd; have EW := E2.out.keep (hl E2.out); clear hl hd; have hc := EW.s1; unfold relAt; go_simp; exact rel_is (LeE.refl d w sb (nm, s)))
  intro _
  rw [tyIs_f]
  go_simp
  apply wpRel_cons (t := tyIs _ _)
  case h1 => (intro w' hl hd; have EW := E2.out.keep (hl E2.out); clear hl hd; unfold relAt; go_simp; exact rel_is (LeE.refl d w sb (nm, s)))
  intro _
  rw [tyIs_f]
  go_simp
  apply wpRel_cons (t := tyIs _ (.int .i64 ((s.size : Int) + 1)))
  case h1 => (intro w' hl hd; have EW := E2.out.keep (hl E2.out); clear hl hd; unfold relAt; go_simp; exact rel_is (LeE.refl d w sb (nm, s)))
  intro _
  rw [tyIs_f]
  go_simp
  apply wpRel_cons (t := tyNum _ (s.size + 1) (Nat.succ_pos _))
  case h1 => (intro w' hl hd; have EW := E2.out.keep (hl E2.out); clear hl hd; unfold relAt; go_simp; refine ⟨LeE.refl d w sb (nm, s) _, ?_⟩; refine (nextI_any d ((s.size : Int) + 1) _ EW.thr.good (by omega) (by omega)).mono ?_; rintro e w3 ⟨k3, hk3, rfl, ht3, -⟩; exact ⟨⟨k3, by omega⟩, rfl, fun _ => ht3, trivial⟩)
  rintro ⟨a3, ha3⟩
  rw [tyNum_f]
  go_simp
  apply wpRel_cons (t := tyAgg _ nm (s.size + 1) (Nat.succ_pos _))
  case h1 => (intro w' hl hd; clear hl hd; unfold relAt; go_simp; exact ⟨LeE.refl d w sb (nm, s) _, ⟨a3, ha3⟩, rfl, trivial⟩)
  rintro ⟨a4, ha4⟩
  rw [tyAgg_f]
  go_simp
  apply wpRel_cons (t := tyEd d w sb (nm, s))
  case h1 => (intro w' hl hd; have EW := E2.out.keep (hl E2.out); clear hl hd; unfold relAt; go_simp; refine ⟨fun h => thrown_new h.thr.good _, ⟨_, trivial⟩, rfl, ?_⟩; rw [tyEd_p]; exact ⟨EW.keep (thrown_new EW.thr.good _), heap_lt EW.s, heap_alloc_new w' _⟩)
  rintro ⟨eb, -⟩
  rw [tyEd_f]
  go_simp
  apply wpRel_nil (Ts := [])
  intro w9 hl hF
  have hx := hF 9
  simp [upd, tyEd_p] at hx
  have HEX := Lib.hid hx
  clear hl hF hx E2 HED
  have d0 : w9.cell? ⟨eb, 0, none⟩ = some (.string ⟨#[]⟩) := by rw [Lib.cell_of_heap HEX.out.2.2]; rfl
  have d1 : w9.cell? ⟨eb, 1, none⟩ = some (.int .i64 0) := by rw [Lib.cell_of_heap HEX.out.2.2]; rfl
  have d2 : w9.cell? ⟨eb, 2, none⟩ = some (.int .i64 0) := by rw [Lib.cell_of_heap HEX.out.2.2]; rfl
  have d3 : w9.cell? ⟨eb, 3, none⟩ = some (.string ⟨#[]⟩) := by rw [Lib.cell_of_heap HEX.out.2.2]; rfl
  have f0 : ∀ i, w9.frozen? ⟨eb, i, none⟩ = false := fun i => Lib.frozen_of_heap HEX.out.2.2 i
  have HST : Hid (Ee d w sb (nm, s) eb nm (a4 : Int) 0 ⟨#[]⟩ ((((w9.setCell ⟨eb, 0, none⟩ (.string nm)).setCell ⟨eb, 1, none⟩ (.int .i64 (a4 : Int))).setCell ⟨eb, 2, none⟩ (.int .i64 0)).setCell ⟨eb, 3, none⟩ (.string ⟨#[]⟩))) := HEX.out.1.edit HEX.out.2.1 HEX.out.2.2 _ _ _ _
  clear HEX hsum
  go_wp2_with fail
  clear d0 d1 d2 d3 f0
  generalize (((w9.setCell ⟨eb, 0, none⟩ (.string nm)).setCell ⟨eb, 1, none⟩ (.int .i64 (a4 : Int))).setCell ⟨eb, 2, none⟩ (.int .i64 0)).setCell ⟨eb, 3, none⟩ (.string ⟨#[]⟩) = w10 at *
  have E5 := Lib.hid (HST.out.keep (thrown_drewN HST.out.ed.thr.good 1))
  have hdif : IntKind.i64.wrap ((s.size : Int) - (a4 : Int)) = (s.size : Int) - (a4 : Int) := IntWalk.i64_in _ (by omega)
  apply wp_region_relT (LeE.refl d w sb (nm, s)) (LeE.trans d w sb (nm, s)) 10
  case hm => kernel_rfl
  case hB => kernel_rfl
  simp only [List.take_succ_cons, List.take_zero, List.drop_succ_cons, List.drop_zero]
  apply wpRel_cons (t := tyIs _ _)
  case h1 => (intro w' hl hd; have EW := E5.out.keep (hl E5.out.ed); clear hl hd; unfold relAt; go_simp; exact rel_is (LeE.refl d w sb (nm, s)))
  intro _
  rw [tyIs_f]
  go_simp
  apply wpRel_cons (t := tyNum _ 9 pos9)
  case h1 => (intro w' hl hd; have EW := E5.out.keep (hl E5.out.ed); clear hl hd; unfold relAt; go_simp; refine ⟨LeE.refl d w sb (nm, s) _, ?_⟩; refine (nextI_any d 9 _ EW.ed.thr.good (by omega) (by omega)).mono ?_; rintro e w3 ⟨k3, hk3, rfl, ht3, -⟩; exact ⟨⟨k3, by omega⟩, rfl, fun _ => ht3, trivial⟩)
  rintro ⟨k5, hk5⟩
  rw [tyNum_f]
  go_simp
  apply wpRel_cons (t := tyIs _ _)
  case h1 => (intro w' hl hd; have EW := E5.out.keep (hl E5.out.ed); clear hl hd; unfold relAt; go_simp; exact rel_is (LeE.refl d w sb (nm, s)))
  intro _
  rw [tyIs_f]
  go_simp
  apply wpRel_cons (t := tyIs _ (.string s))
  case h1 => (intro w' hl hd; have EW := E5.out.keep (hl E5.out.ed); clear hl hd; have hc := EW.ed.s1; unfold relAt; go_simp; exact rel_is (LeE.refl d w sb (nm, s)))
  intro _
  rw [tyIs_f]
  go_simp
  apply wpRel_cons (t := tyIs _ _)
  case h1 => (intro w' hl hd; have EW := E5.out.keep (hl E5.out.ed); clear hl hd; unfold relAt; go_simp; exact rel_is (LeE.refl d w sb (nm, s)))
  intro _
  rw [tyIs_f]
  go_simp
  apply wpRel_cons (t := tyIs _ _)
  case h1 => (intro w' hl hd; have EW := E5.out.keep (hl E5.out.ed); clear hl hd; unfold relAt; go_simp; exact rel_is (LeE.refl d w sb (nm, s)))
  intro _
  rw [tyIs_f]
  go_simp
  apply wpRel_cons (t := tyIs _ (.int .i64 (a4 : Int)))
  case h1 => (intro w' hl hd; have EW := E5.out.keep (hl E5.out.ed); clear hl hd; have hc := EW.cells.2.1; unfold relAt; go_simp; exact rel_is (LeE.refl d w sb (nm, s)))
  intro _
  rw [tyIs_f]
  go_simp
  apply wpRel_cons (t := tyIs _ (.int .i64 ((s.size : Int) - (a4 : Int))))
  case h1 => (intro w' hl hd; have EW := E5.out.keep (hl E5.out.ed); clear hl hd; unfold relAt; go_simp; exact rel_is (LeE.refl d w sb (nm, s)))
  intro _
  rw [tyIs_f]
  go_simp
  apply wpRel_cons (t := tyMin _ (s.size - a4))
  case h1 => (intro w' hl hd; clear hl hd; unfold relAt; go_simp; exact min_rel (LeE.refl d w sb (nm, s) _) k5 (by omega))
  rintro ⟨c5, hc5⟩
  rw [tyMin_f]
  go_simp
  apply wpRel_cons (t := tyIs _ _)
  case h1 => (intro w' hl hd; clear hl hd; unfold relAt; go_simp; exact rel_is (LeE.refl d w sb (nm, s)))
  intro _
  rw [tyIs_f]
  go_simp
  apply wpRel_nil (Ts := [])
  intro w11 hl hF
  have E6 := Lib.hid (E5.out.keep (hl E5.out.ed))
  clear hl hF E5 HST hdif
  obtain ⟨q0, q1, q2, q3, f0⟩ := E6.out.cells
  have q4 := E6.out.ed.s1
  have E7 := Lib.hid (E6.out.count (c5 : Int))
  clear E6
  go_wp2_with fail
  clear q0 q1 q2 q3 q4 f0
  generalize w11.setCell ⟨eb, 2, none⟩ (.int .i64 (c5 : Int)) = w12 at *
  refine (pieces_any _).mono ?_
  rintro e w13 ⟨rfl, hw13⟩
  have S8 : Hid (Shorts 32 w13 (some ⟨w12.heap.size, 0, none⟩) 34) := by rw [hw13]; exact shorts_row 32 piecesL pieces_short _ w12
  have E8 : Hid (Ee d w sb (nm, s) eb nm (a4 : Int) (c5 : Int) ⟨#[]⟩ w13) := by rw [hw13]; exact E7.out.keep (thrown_new E7.out.ed.thr.good _)
  have hpb : Hid (w12.heap.size ≠ d.D) := by show _ ≠ _; have := heap_lt E7.out.e; have := E7.out.ed.dlo; have := E7.out.ed.lo; have := E7.out.lt; omega
  clear hw13 E7
  generalize w12.heap.size = pb at *
  go_wp2_with fail
  refine (nextI_any d 34 _ E8.out.ed.thr.good (by omega) (by omega)).mono ?_
  rintro e w14 ⟨k7, hk7, rfl, ht, -⟩
  obtain ⟨b', o', t7, hp, hc7, hn7⟩ := (S8.out.thrown ht (fun x y e => by injection e with e; injection e with e _ _; exact e ▸ hpb.out)) k7 (by omega)
  injection hp with hp
  injection hp with hp1 hp2 _
  subst hp1
  subst hp2
  rw [Nat.zero_add] at hc7
  have E9 := Lib.hid (E8.out.keep ht)
  have HN7 := Lib.hid hn7
  clear ht hn7 S8 E8
  obtain ⟨q0, q1, q2, q3, f0⟩ := E9.out.cells
  have E10 := Lib.hid (E9.out.text t7)
  clear E9
  go_wp2_with fail
  clear q0 q1 q2 q3 f0 hc7
  generalize w14.setCell ⟨eb, 3, none⟩ (.string t7) = w15 at *
  refine (nextI_any d 4 _ E10.out.ed.thr.good (by omega) (by omega)).mono ?_
  rintro e w16 ⟨k8, hk8, rfl, ht, -⟩
  have E11 := Lib.hid (E10.out.keep ht)
  clear E10 ht
  have q4 := E11.out.ed.s1
  obtain ⟨r0, r1, r2, r3, fr⟩ := E11.out.ed.rcells
  have hne1 : ¬ eb = w.heap.size := by have := E11.out.ed.lo; have := E11.out.lt; omega
  have hne2 : ¬ w.heap.size = eb := by omega
  obtain ⟨q0, q1, q2, q3, f0⟩ := E11.out.cells
  by_cases hk0 : k8 = 0
  · subst hk0
    have E12 := Lib.hid (E11.out.count 0)
    clear E11
    go_wp2_with fail
    (try simp only [Exit.inBlock, Exit.then])
    refine bodyPost_ret (results_cellE rfl _ _ _ ⟨w.heap.size, 0, none⟩ _ rfl (load_edit _ _ _ _ _ _ (E12.out.ed.resultC _ _ _ _))) rfl ?_
    exact ⟨k, nm, s, t7, a4, 0, hk, HXE.out, by omega, HN7.out, rfl, E12.out.ed.result _ _ _ _⟩
  · have hk0' : ((k8 : Int) == 0) = false := by simpa using hk0
    by_cases hk1 : k8 = 1
    · subst hk1
      have HC5 := Lib.hid hc5
      clear q0 q1 q2 q3 q4 f0 r0 r1 r2 r3 fr hk0 hk0' hc5 hk8
      go_wp2_with fail
      go_loopw [8, 9] (fun i _ wr => ∃ j : Nat, j ≤ s.size ∧ i = .int .i64 j ∧ Hid (Ee d w sb (nm, s) eb nm (a4 : Int) (c5 : Int) t7 wr)) (fun i _ _ => s.size - (intOf i).toNat)
      case atStart => exact ⟨0, Nat.zero_le _, rfl, E11.out⟩
      case round =>
        obtain ⟨j, hj, rfl, ER⟩ := hrel
        have q4 := ER.out.ed.s1
        obtain ⟨q0, q1, q2, q3, f0⟩ := ER.out.cells
        obtain ⟨r0, r1, r2, r3, fr⟩ := ER.out.ed.rcells
        by_cases hlt : j < s.size
        · have hi1 : (j : Int) < (s.size : Int) := by omega
          have hz : ¬ (s.size : Int) = 0 := by omega
          have w1 : IntKind.i64.wrap ((a4 : Int) + (j : Int)) = (a4 : Int) + (j : Int) := IntWalk.i64_in _ (by omega)
          obtain ⟨q, w2, w5, hkk⟩ : ∃ q : Nat, Int.tmod ((a4 : Int) + (j : Int)) (s.size : Int) = (q : Int) ∧ ((a4 : Int) + (j : Int)) % (s.size : Int) = (q : Int) ∧ q < s.size :=
            ⟨(a4 + j) % s.size, rfl, rfl, Nat.mod_lt _ (by omega)⟩
          have w3 : IntKind.i64.wrap (q : Int) = (q : Int) := IntWalk.i64_in _ (by omega)
          have hqi : (q : Int) < (s.size : Int) := by omega
          by_cases hq0 : q = 0
          · have hq0' : ((q : Int) == 0) = true := by simp; omega
            go_wp2_with fail
            all_goals first
              | exact ⟨⟨j + 1, by omega, by go_num, ER⟩, by simp [intOf]; omega⟩
              | (
                have E17 := Lib.hid (ER.out.keep (thrown_drewN ER.out.ed.thr.good 1))
                clear q0 q1 q2 q3 q4 f0 r0 r1 r2 r3 fr
                apply wp_region_relT (LeE.refl d w sb (nm, s)) (LeE.trans d w sb (nm, s)) 7
                case hm => kernel_rfl
                case hB => kernel_rfl
                simp only [List.take_succ_cons, List.take_zero, List.drop_succ_cons, List.drop_zero]
                apply wpRel_cons (t := tyIs _ _)
                case h1 => (intro w' hl hd; have EW := E17.out.keep (hl E17.out.ed); clear hl hd; unfold relAt; go_simp; exact rel_is (LeE.refl d w sb (nm, s)))
                intro _
                rw [tyIs_f]
                go_simp
                apply wpRel_cons (t := tyIs _ (.string nm))
                case h1 => (intro w' hl hd; have EW := E17.out.keep (hl E17.out.ed); clear hl hd; have hc := EW.ed.s0; unfold relAt; go_simp; exact rel_is (LeE.refl d w sb (nm, s)))
                intro _
                rw [tyIs_f]
                go_simp
                apply wpRel_cons (t := tyIs _ _)
                case h1 => (intro w' hl hd; have EW := E17.out.keep (hl E17.out.ed); clear hl hd; unfold relAt; go_simp; exact rel_is (LeE.refl d w sb (nm, s)))
                intro _
                rw [tyIs_f]
                go_simp
                apply wpRel_cons (t := tyIs _ _)
                case h1 => (intro w' hl hd; have EW := E17.out.keep (hl E17.out.ed); clear hl hd; unfold relAt; go_simp; exact rel_is (LeE.refl d w sb (nm, s)))
                intro _
                rw [tyIs_f]
                go_simp
                apply wpRel_cons (t := tyNum _ 9 pos9)
                case h1 => (intro w' hl hd; have EW := E17.out.keep (hl E17.out.ed); clear hl hd; unfold relAt; go_simp; refine ⟨LeE.refl d w sb (nm, s) _, ?_⟩; refine (nextI_any d 9 _ EW.ed.thr.good (by omega) (by omega)).mono ?_; rintro e w3 ⟨k3, hk3, rfl, ht3, -⟩; exact ⟨⟨k3, by omega⟩, rfl, fun _ => ht3, trivial⟩)
                rintro ⟨k9, hk9⟩
                rw [tyNum_f]
                go_simp
                apply wpRel_cons (t := tyStr _ 1)
                case h1 => (intro w' hl hd; have EW := E17.out.keep (hl E17.out.ed); clear hl hd; unfold relAt; go_simp; refine ⟨LeE.refl d w sb (nm, s) _, ?_⟩; refine (oneDigit_any k9 _ (by omega)).mono ?_; rintro e w3 ⟨x9, hx9, rfl, hb9⟩; exact ⟨⟨x9, hx9⟩, rfl, fun h => thrown_below h.thr.good hb9, trivial⟩)
                rintro ⟨x9, hx9⟩
                rw [tyStr_f]
                go_simp
                apply wpRel_cons (t := tyDig _ nm q)
                case h1 => (intro w' hl hd; have EW := E17.out.keep (hl E17.out.ed); clear hl hd; unfold relAt; go_simp; exact ⟨LeE.refl d w sb (nm, s) _, ⟨x9, hx9⟩, rfl, trivial⟩)
                rintro ⟨x8, hx8⟩
                rw [tyDig_f]
                go_simp
                apply wpRel_nil (Ts := [])
                intro w18 hl hF
                have E18 := Lib.hid (E17.out.keep (hl E17.out.ed))
                clear hl hF E17 ER
                obtain ⟨r0, r1, r2, r3, fr⟩ := E18.out.ed.rcells
                go_wp2_with fail
                (try simp only [Exit.inBlock, Exit.then])
                refine bodyPost_ret (results_cellE rfl _ _ _ ⟨w.heap.size, 0, none⟩ _ rfl (load_edit _ _ _ _ _ _ (E18.out.ed.resultC _ _ _ _))) rfl ?_
                exact ⟨k, nm, s, x8, q, 1, hk, HXE.out, by omega, by omega, by first | rfl | (rw [hq0]; rfl), E18.out.ed.result _ _ _ _⟩)
          · have hq0' : ((q : Int) == 0) = false := by simp; omega
            have w4 : IntKind.i64.wrap ((q : Int) - 1) = (q : Int) - 1 := IntWalk.i64_in _ (by omega)
            have hq1 : (q : Int) - 1 < (s.size : Int) := by omega
            have hq2 : 0 ≤ (q : Int) - 1 := by omega
            go_wp2_with fail
            all_goals first
              | exact ⟨⟨j + 1, by omega, by go_num, ER⟩, by simp [intOf]; omega⟩
              | (
                have E17 := Lib.hid (ER.out.keep (thrown_drewN ER.out.ed.thr.good 1))
                clear q0 q1 q2 q3 q4 f0 r0 r1 r2 r3 fr
                apply wp_region_relT (LeE.refl d w sb (nm, s)) (LeE.trans d w sb (nm, s)) 7
                case hm => kernel_rfl
                case hB => kernel_rfl
                simp only [List.take_succ_cons, List.take_zero, List.drop_succ_cons, List.drop_zero]
                apply wpRel_cons (t := tyIs _ _)
                case h1 => (intro w' hl hd; have EW := E17.out.keep (hl E17.out.ed); clear hl hd; unfold relAt; go_simp; exact rel_is (LeE.refl d w sb (nm, s)))
                intro _
                rw [tyIs_f]
                go_simp
                apply wpRel_cons (t := tyIs _ (.string nm))
                case h1 => (intro w' hl hd; have EW := E17.out.keep (hl E17.out.ed); clear hl hd; have hc := EW.ed.s0; unfold relAt; go_simp; exact rel_is (LeE.refl d w sb (nm, s)))
                intro _
                rw [tyIs_f]
                go_simp
                apply wpRel_cons (t := tyIs _ _)
                case h1 => (intro w' hl hd; have EW := E17.out.keep (hl E17.out.ed); clear hl hd; unfold relAt; go_simp; exact rel_is (LeE.refl d w sb (nm, s)))
                intro _
                rw [tyIs_f]
                go_simp
                apply wpRel_cons (t := tyIs _ _)
                case h1 => (intro w' hl hd; have EW := E17.out.keep (hl E17.out.ed); clear hl hd; unfold relAt; go_simp; exact rel_is (LeE.refl d w sb (nm, s)))
                intro _
                rw [tyIs_f]
                go_simp
                apply wpRel_cons (t := tyNum _ 9 pos9)
                case h1 => (intro w' hl hd; have EW := E17.out.keep (hl E17.out.ed); clear hl hd; unfold relAt; go_simp; refine ⟨LeE.refl d w sb (nm, s) _, ?_⟩; refine (nextI_any d 9 _ EW.ed.thr.good (by omega) (by omega)).mono ?_; rintro e w3 ⟨k3, hk3, rfl, ht3, -⟩; exact ⟨⟨k3, by omega⟩, rfl, fun _ => ht3, trivial⟩)
                rintro ⟨k9, hk9⟩
                rw [tyNum_f]
                go_simp
                apply wpRel_cons (t := tyStr _ 1)
                case h1 => (intro w' hl hd; have EW := E17.out.keep (hl E17.out.ed); clear hl hd; unfold relAt; go_simp; refine ⟨LeE.refl d w sb (nm, s) _, ?_⟩; refine (oneDigit_any k9 _ (by omega)).mono ?_; rintro e w3 ⟨x9, hx9, rfl, hb9⟩; exact ⟨⟨x9, hx9⟩, rfl, fun h => thrown_below h.thr.good hb9, trivial⟩)
                rintro ⟨x9, hx9⟩
                rw [tyStr_f]
                go_simp
                apply wpRel_cons (t := tyDig _ nm q)
                case h1 => (intro w' hl hd; have EW := E17.out.keep (hl E17.out.ed); clear hl hd; unfold relAt; go_simp; exact ⟨LeE.refl d w sb (nm, s) _, ⟨x9, hx9⟩, rfl, trivial⟩)
                rintro ⟨x8, hx8⟩
                rw [tyDig_f]
                go_simp
                apply wpRel_nil (Ts := [])
                intro w18 hl hF
                have E18 := Lib.hid (E17.out.keep (hl E17.out.ed))
                clear hl hF E17 ER
                obtain ⟨r0, r1, r2, r3, fr⟩ := E18.out.ed.rcells
                go_wp2_with fail
                (try simp only [Exit.inBlock, Exit.then])
                refine bodyPost_ret (results_cellE rfl _ _ _ ⟨w.heap.size, 0, none⟩ _ rfl (load_edit _ _ _ _ _ _ (E18.out.ed.resultC _ _ _ _))) rfl ?_
                exact ⟨k, nm, s, x8, q, 1, hk, HXE.out, by omega, by omega, by first | rfl | (rw [hq0]; rfl), E18.out.ed.result _ _ _ _⟩)
        · have hi1 : ¬ (j : Int) < (s.size : Int) := by omega
          go_wp2_with fail
          (try simp only [Exit.inBlock, Exit.then])
          refine bodyPost_ret (results_cellE rfl _ _ _ ⟨w.heap.size, 0, none⟩ _ rfl (load_edit _ _ _ _ _ _ (ER.out.ed.resultC _ _ _ _))) rfl ?_
          exact ⟨k, nm, s, t7, a4, c5, hk, HXE.out, by have := HC5.out; omega, HN7.out, rfl, ER.out.ed.result _ _ _ _⟩
    · have hk1' : ((k8 : Int) == 1) = false := by simp; omega
      go_wp2_with fail
      (try simp only [Exit.inBlock, Exit.then])
      refine bodyPost_ret (results_cellE rfl _ _ _ ⟨w.heap.size, 0, none⟩ _ rfl (load_edit _ _ _ _ _ _ (E11.out.ed.resultC _ _ _ _))) rfl ?_
      exact ⟨k, nm, s, t7, a4, c5, hk, HXE.out, by omega, HN7.out, rfl, E11.out.ed.result _ _ _ _⟩
end Go.Proofs.YtnkojbnkdihbkaaGreat

/-
  CONTRACTS: Wrong and Text: programs with at most three changes.
-/
namespace Go.Proofs.YtnkojbnkdihbkaaGreat
open Go Go.RowKit
set_option linter.unusedVariables false
set_option linter.unusedSimpArgs false

/-- the dice are good, and nothing old has changed but their count -/
structure Fd (d : Dice) (w0 w : World) : Prop where
  dice : DiceAt d w
  fr : Fr w0.heap.size d.D w0.heap.size w0 w
theorem Fd.size {d : Dice} {a b : World} (h : Fd d a b) : a.heap.size ≤ b.heap.size := h.fr.size
theorem Fd.trans {d : Dice} {a b c : World} (h : Fd d a b) (k : Fd d b c) : Fd d a c := by
  have := h.size
  exact ⟨k.dice, h.fr.trans ⟨k.fr.os, k.fr.tape, k.fr.output, k.fr.size, fun x h1 h2 h3 => k.fr.block x (by omega) (by omega) h3, k.fr.dcell, k.fr.dfrozen⟩⟩
theorem Fd.thrown {d : Dice} {w w' : World} (hd : DiceAt d w) (h : Thrown d w w') : Fd d w w' := by
  have hD := World.block_lt_of_cell? w _ hd.at_
  simp only at hD
  refine ⟨h.good, h.but.os, h.but.tape, h.but.output, h.but.size, fun x h1 h2 h3 => h.but.block x h1 (fun a ha q => ?_), fun a e hne => h.but.cell a (by omega) hne, fun a e => h.but.frozen a (by omega)⟩
  unfold isAt at q
  subst q
  exact h3 ha.symm
theorem Fd.refl {d : Dice} {w : World} (hd : DiceAt d w) : Fd d w w := ⟨hd, Fr.refl _ _ _ _⟩
theorem Fd.below {d : Dice} {w w' : World} (hd : DiceAt d w) (hb : Below w.heap.size w w') : Fd d w w' := Fd.thrown hd (thrown_below hd hb)
theorem OwnS.thrown {d : Dice} {w w' : World} {B : Nat} {v : Value} {L : List Src} (h : OwnS w B v L) (t : Thrown d w w') (hD : d.D < B) : OwnS w' B v L := by
  obtain ⟨h1, h2 | ⟨g, cap, cur, hv, hg, hh, rest⟩⟩ := h
  · exact ⟨h1, .inl h2⟩
  · exact ⟨h1, .inr ⟨g, cap, cur, hv, hg, thrown_block t hh (by omega), rest⟩⟩
theorem OwnS.open {w : World} {B : Nat} {v : Value} {L : List Src} (h : OwnS w B v L) : ∃ p n cap, v = .slice p n cap ∧ n = L.length ∧ (p = none → cap = 0) ∧ (∀ b o, p = some ⟨b, o, none⟩ → B ≤ b) := by
  obtain ⟨h1, ⟨hv, hn⟩ | ⟨g, cap, cur, hv, hg, hh, rest⟩⟩ := h
  · exact ⟨none, 0, 0, hv, hn.symm, fun _ => rfl, fun _ _ e => by cases e⟩
  · exact ⟨_, _, cap, hv, rfl, (fun e => by cases e), fun b o e => by injection e with e; injection e with e _ _; omega⟩

theorem size_edTo (m tx : ByteArray) (a c : Nat) (x : Src) (B : Nat) (h : x.2.size ≤ B) (ht : tx.size ≤ 32) : (edTo m tx a c x).2.size ≤ B + 32 := by
  unfold edTo
  split
  · rename_i q
    show (editText x.2 a c tx).size ≤ _
    unfold editText
    have := q.2
    simp only [ByteArray.size_append, ByteArray.size_extract]
    omega
  · omega
theorem edTo_fst (m tx : ByteArray) (a c : Nat) (x : Src) : (edTo m tx a c x).1 = x.1 := by
  unfold edTo; split <;> rfl
theorem map_edTo_fst (m tx : ByteArray) (a c : Nat) (L : List Src) : (L.map (edTo m tx a c)).map Prod.fst = L.map Prod.fst := by
  rw [List.map_map]; exact List.map_congr_left (fun x _ => edTo_fst m tx a c x)
theorem getD_map_edTo (m tx : ByteArray) (a c : Nat) (L : List Src) (j : Nat) (hj : j < L.length) : (L.map (edTo m tx a c)).getD j empty2 = edTo m tx a c (L.getD j empty2) := by
  simp [List.getD, List.getElem?_map, List.getElem?_eq_getElem hj]

/-- a program: one to three modules with names of one letter, in a block of the call's own; the texts have at most B bytes -/
def Prg (d : Dice) (B : Nat) (w0 : World) (L : List Src) (v : Value) (w' : World) : Prop :=
  OwnS w' w0.heap.size v L ∧ (∀ j, j < L.length → (L.getD j empty2).2.size ≤ B) ∧ (∃ k, 1 ≤ k ∧ k ≤ 3 ∧ L.map Prod.fst = (List.range k).map letterOf) ∧ Fd d w0 w'
theorem Prg.len {d : Dice} {B : Nat} {w0 w' : World} {L : List Src} {v : Value} (h : Prg d B w0 L v w') : 1 ≤ L.length ∧ L.length ≤ 3 := by
  obtain ⟨_, _, ⟨k, h1, h2, h3⟩, _⟩ := h
  have := congrArg List.length h3
  simp at this
  omega
theorem SrcPost.prg {d : Dice} {w : World} {e : Ending} {w' : World} (h : SrcPost d w e w') : ∃ L v, e = .returned v ∧ Prg d 12400 w L v w' := by
  obtain ⟨L, v, he, ho, hs, h1, h3, hdi, hf⟩ := h
  refine ⟨_, v, he, ho, fun j hj => ?_, ⟨L.length, h1, h3, ?_⟩, hdi, hf⟩
  · rw [mods_length] at hj
    have e : (mods L L.length).getD j empty2 = (letterOf j, L.getD j ByteArray.empty) := by simp [mods, List.getD, hj]
    rw [e]
    exact getD_le hs j
  · simp [mods]

set_option maxHeartbeats 1000000 in
theorem wrong_any (d : Dice) (w : World) (hd : DiceAt d w) (hrow : ∀ b o, d.p = some ⟨b, o, none⟩ → b < w.heap.size) :
    Calls Tryz.prog 27 #[.pointer (some ⟨d.D, 0, none⟩)] w fun e w' => ∃ L v, e = .returned v ∧ Prg d 12496 w L v w' := by
  have HD := Lib.hid hd
  have HROW := Lib.hid hrow
  have hDlt : Hid (d.D < w.heap.size) := (World.block_lt_of_cell? w _ hd.at_ : d.D < w.heap.size)
  clear hd hrow
  go_enter Tryz.func27, Tryz.ntmps27
  go_wp2_with fail
  refine (sources_any d w HD.out HROW.out).mono ?_
  intro e w1 hp
  obtain ⟨L, v, rfl, hprg⟩ := hp.prg
  have HP := Lib.hid hprg
  clear hp hprg
  go_wp2_with fail
  refine (next_any d 4 _ HP.out.2.2.2.dice (by omega) (by omega)).mono ?_
  rintro e w2 ⟨k, hk, rfl, ht, -⟩
  have HP2 : Hid (Prg d (12400 + 32 * (3 - k)) w L v w2 ) := by
    obtain ⟨h1, h2, h3, h4⟩ := HP.out
    exact ⟨h1.thrown ht hDlt.out, fun j hj => by have := h2 j hj; omega, h3, h4.trans (Fd.thrown h4.dice ht)⟩
  clear ht HP
  go_wp2_with fail
  go_loopw [3, 4] (fun l i wr => ∃ (k : Nat) (L : List Src), k < 4 ∧ i = .int .i64 k ∧ Hid (Prg d (12400 + 32 * (3 - k)) w L l wr)) (fun _ i _ => (intOf i).toNat)
  case atStart => exact ⟨k, L, hk, rfl, HP2.out⟩
  case round =>
    obtain ⟨q, M, hq, rfl, HM⟩ := hrel
    obtain ⟨p, n, cap, rfl, hn, hpc, hpb⟩ := HM.out.1.open
    have HN := Lib.hid hn
    have HPC := Lib.hid hpc
    have HPB := Lib.hid hpb
    clear hn hpc hpb
    by_cases h0 : 0 < q
    · have hgt : (0 : Int) < (q : Int) := by omega
      go_wp2_with fail
      have hlen := HM.out.len
      have hsrc := HM.out.1.srcs
      have hsz := HM.out.2.1
      have hfd := HM.out.2.2.2
      have hD := hDlt.out
      refine (edit_any d p n cap M _ hfd.dice (by rw [HN.out]; omega) (by rw [HN.out]; omega) hsrc (fun j hj => by have := hsz j hj; omega) (fun b o e => by have := HPB.out b o e; omega) (fun b o e => by have := HROW.out b o e; have := hfd.size; omega)).mono ?_
      rintro e w3 ⟨k2, m, s, tx, a, c, hk2, hg, hac, htx, rfl, ht⟩
      have hs : s.size ≤ 12496 := by have := hsz k2 (by rw [← HN.out]; exact hk2); rw [hg] at this; simp only at this; omega
      have own3 := HM.out.1.thrown ht hD
      have HT := Lib.hid ht
      have HO3 := Lib.hid own3
      clear hlen hsrc hsz hfd hD ht own3
      go_wp2_with fail
      refine (madeApply_any p n cap M m tx a c _ (by have := HM.out.len; rw [HN.out]; omega) HO3.out.srcs HPC.out (fun j hj => by have := HM.out.2.1 j hj; omega) (by omega) (by omega) (by omega)).mono ?_
      rintro e w4 ⟨v4, rfl, hown, hb⟩
      have HQ : Hid (Prg d (12400 + 32 * (3 - (q - 1))) w (M.map (edTo m tx a c)) v4 w4) := by
        obtain ⟨h1, h2, ⟨k, h3, h4, h5⟩, h6⟩ := HM.out
        have h7 := h6.trans (Fd.thrown h6.dice HT.out)
        refine ⟨hown.mono h7.size, fun j hj => ?_, ⟨k, h3, h4, by rw [map_edTo_fst]; exact h5⟩, h7.trans (Fd.below h7.dice hb)⟩
        rw [List.length_map] at hj
        rw [getD_map_edTo _ _ _ _ _ _ hj]
        have := size_edTo m tx a c (M.getD j empty2) _ (h2 j hj) htx
        omega
      clear hown hb HO3 HT
      go_wp2_with fail
      go_roundw
      case rel => exact ⟨q - 1, _, by omega, by go_num, HQ.out⟩
      case measure => simp [intOf]; omega
    · have hz : q = 0 := by omega
      subst hz
      go_wp2_with fail
      go_ret
      exact ⟨M, _, rfl, HM.out⟩
end Go.Proofs.YtnkojbnkdihbkaaGreat

/-
  CONTRACT: Text.
-/
namespace Go.Proofs.YtnkojbnkdihbkaaGreat
open Go Go.RowKit
set_option linter.unusedVariables false
set_option linter.unusedSimpArgs false

set_option maxRecDepth 100000 in
set_option maxHeartbeats 1000000 in
theorem text_any (d : Dice) (w : World) (hd : DiceAt d w) (hrow : ∀ b o, d.p = some ⟨b, o, none⟩ → b < w.heap.size) :
    Calls Tryz.prog 12 #[.pointer (some ⟨d.D, 0, none⟩)] w fun e w' => ∃ s : ByteArray, e = .returned (.string s) ∧ s.size ≤ 12496 ∧ Fd d w w' := by
  have HD := Lib.hid hd
  have HROW := Lib.hid hrow
  have hDlt : Hid (d.D < w.heap.size) := (World.block_lt_of_cell? w _ hd.at_ : d.D < w.heap.size)
  clear hd hrow
  go_enter Tryz.func12, Tryz.ntmps12
  go_wp2_with fail
  refine (wrong_any d w HD.out HROW.out).mono ?_
  rintro e w1 ⟨L, v, rfl, hp⟩
  have HP := Lib.hid hp
  clear hp
  obtain ⟨p, n, cap, rfl, hn, hpc, hpb⟩ := HP.out.1.open
  have HN := Lib.hid hn
  clear hn hpc hpb
  go_wp2_with fail
  refine (next_any d n _ HP.out.2.2.2.dice (by have := HP.out.len; rw [HN.out]; omega) (by have := HP.out.len; rw [HN.out]; omega)).mono ?_
  rintro e w2 ⟨k, hk, rfl, ht, -⟩
  have own2 := HP.out.1.thrown ht hDlt.out
  have hkL : k < L.length := by rw [← HN.out]; exact hk
  obtain ⟨_, _, _, hlies⟩ := own2.srcs.lies
  obtain ⟨b, off, rfl, hcells⟩ := hlies (by omega)
  have c1 := hcells.text k hkL
  have hk1 : (k : Int) < (n : Int) := by omega
  have HR : Hid (Fd d w w2) := HP.out.2.2.2.trans (Fd.thrown HP.out.2.2.2.dice ht)
  have hsz : (L.getD k empty2).2.size ≤ 12496 := HP.out.2.1 k hkL
  clear ht own2 hlies hcells HP HN hkL
  go_wp2_with fail
  go_ret
  exact ⟨_, rfl, hsz, HR.out⟩
end Go.Proofs.YtnkojbnkdihbkaaGreat

/-
  LAWS: a list of ints that came in, as dice.
-/
namespace Go.Proofs.YtnkojbnkdihbkaaGreat
open Go Go.RowKit Go.ChangeShapes Go.WideShapes
set_option linter.unusedVariables false

theorem lt_of_shape {w : World} {r : Nat} {x : TypeId × Nat} (h : w.shape? r = some x) : r < w.heap.size := by
  unfold World.shape? at h
  by_cases hlt : r < w.heap.size
  · exact hlt
  · rw [Array.getElem?_eq_none (by omega)] at h; simp at h

set_option maxRecDepth 100000 in
/-- a list of ints that came in: the numbers that it holds, and where -/
theorem open_rolls {H : Type} {enc : TypeId × Value → H} {W : World} {v : Value} {d : DataW H} {p : List MemPlace} {b0 : Nat} (hv : Value.okWide Tryz.prog W .any b0 28 v) (h : DataW.Trod enc Tryz.prog W 0 (fun _ => true) true 28 v d p) :
    ∃ (p' : Option Addr) (n cap : Nat), v = .slice p' n cap ∧ n ≤ maxLen ∧ Rolls W p' n ∧ (∀ b o, p' = some ⟨b, o, none⟩ → b < W.heap.size) := by
  obtain ⟨a0, len, cap, rfl⟩ := okWide_slice Tryz.underlying28 hv
  obtain ⟨fuel, hf⟩ := h
  have hin : ∀ b o, a0 = some ⟨b, o, none⟩ → b < W.heap.size := by
    intro b o e
    subst e
    simp only [Value.okWide, Tryz.underlying28, Cell.okWide, Cell.ok] at hv
    obtain ⟨_, _, _, _, r, c, hs, _⟩ := hv
    exact lt_of_shape hs
  rcases open_ints Tryz.underlying28 Tryz.underlying3 (by kernel_rfl) hf with ⟨e, _⟩ | ⟨a, l2, c2, zs, e, _, hlc, hcm, hzl, _, hc, hw⟩
  · simp only [Value.cells, List.cons.injEq, and_true] at e
    have e' : Value.slice a0 len cap = .slice none 0 0 := by simpa [Value.cells] using e
    injection e' with e1 e2 e3
    subst e1; subst e2; subst e3
    exact ⟨none, 0, 0, rfl, Nat.zero_le _, fun i hi => absurd hi (Nat.not_lt_zero _), hin⟩
  · simp only [Value.cells, List.cons.injEq, and_true] at e
    have e' : Value.slice a0 len cap = .slice (some a) l2 c2 := by simpa [Value.cells] using e
    injection e' with e1 e2 e3
    subst e1; subst e2; subst e3
    refine ⟨some a, len, cap, rfl, Nat.le_trans hlc hcm, fun i hi => ?_, hin⟩
    have hzi : i < zs.length := by rw [hzl]; split <;> omega
    have hci := hc i hzi
    have hlit : a.spot = none := by have := World.cell?_spot (hc 0 (by omega)); simpa [Addr.add] using this
    obtain ⟨b, o, s⟩ := a
    simp only at hlit
    subst hlit
    refine ⟨b, o, rfl, zs.getD i 0, ?_, ?_, ?_⟩
    · have := hw (zs.getD i 0) (by rw [List.getD_eq_getElem?_getD, List.getElem?_eq_getElem hzi]; exact List.getElem_mem hzi)
      simp [Lit.wf, IntKind.min, IntKind.max, IntKind.signed, IntKind.bits] at this
      exact this.1
    · have := hw (zs.getD i 0) (by rw [List.getD_eq_getElem?_getD, List.getElem?_eq_getElem hzi]; exact List.getElem_mem hzi)
      simp [Lit.wf, IntKind.min, IntKind.max, IntKind.signed, IntKind.bits] at this
      exact this.2
    · rw [add_lit] at hci; exact hci

theorem light_yes (p : Option Addr) (n cap : Nat) (w : World) (hn : n ≤ 400) : Calls Tryz.prog 10 #[.slice p n cap] w fun e w' => e = .returned (.bool true) ∧ w' = w := by
  have h : (n : Int) ≤ 400 := by omega
  go_enter Tryz.func10, Tryz.ntmps10
  go_wp2_with fail
  go_ret
  exact ⟨rfl, rfl⟩
theorem light_no (p : Option Addr) (n cap : Nat) (w : World) (hn : 400 < n) (hm : n ≤ maxLen) : Calls Tryz.prog 10 #[.slice p n cap] w fun e w' => e = .returned (.bool false) ∧ w' = w := by
  unfold maxLen at hm
  have h : ¬ (n : Int) ≤ 400 := by omega
  go_enter Tryz.func10, Tryz.ntmps10
  go_wp2_with fail
  go_ret
  exact ⟨rfl, rfl⟩

theorem Fd.base {d : Dice} {a b : World} (h : Fd d a b) (B : Nat) (h1 : B ≤ d.D) (h2 : d.D ≤ a.heap.size) : Below B a b :=
  ⟨h.fr.os, h.fr.tape, h.fr.output, h.fr.size, fun k hk => h.fr.block k (by omega) (by omega) (by omega)⟩
/-- the dice that Roll makes of a list that came in -/
theorem rolled {w : World} {p : Option Addr} {n cap : Nat} (hn : n ≤ 400) (hr : Rolls w p n) (hb : ∀ b o, p = some ⟨b, o, none⟩ → b < w.heap.size) :
    DiceAt ⟨w.heap.size, p, n, cap⟩ (w.alloc (.cells #[.slice p n cap, .int .i64 0] 57)) ∧ (∀ b o, p = some ⟨b, o, none⟩ → b < (w.alloc (.cells #[.slice p n cap, .int .i64 0] 57)).heap.size) :=
  ⟨roll_dice w p n cap _ hn hr hb, fun b o e => by have := hb b o e; have := (below_box w (.cells #[.slice p n cap, .int .i64 0] 57)).size; omega⟩
end Go.Proofs.YtnkojbnkdihbkaaGreat
