/-
  CONTRACTS: the reader of the program's parser: the next token, its place, a panic at it.
-/
import Derived.Test.YtheigpiffdabnaaGreatZA2
import Derived.Test.YtheigpiffdabnaaGreatZA1
import Derived.Test.YtheigpiffdabnaaGreatChecked
import Derived.WalkKit
import Derived.WalkSpells
import Derived.WalkLawsBesides
import Derived.KernelRfl
import Derived.BigQuiet
import Derived.BigRegion
import Derived.StillTailTactics
import Derived.Laws.AppendOwn
import Derived.Maps.AppendAt
set_option linter.unusedSimpArgs false
set_option linter.unusedVariables false
namespace Go.Proofs.YtheigpiffdabnaaGreat
open Go Go.RowKit
/-- a reader: its block, and its tokens -/
structure Rdr where
 b : Nat
 p : Option Addr
 cap : Nat
 L : List Lx.Tok
/-- the reader lies there: the token i comes next, the level is lv -/
structure RdAt (r : Rdr) (i lv : Nat) (s : Bool) (w : World) : Prop where
 cells : w.heap[r.b]? = some (.cells #[.slice r.p r.L.length r.cap, .int .i64 (i : Int), .int .i64 (lv : Int), .bool s] 69 (0, 0))
 toks : SlIs tokEnc w (.slice r.p r.L.length r.cap) r.L
 away : ∀ b o, r.p = some ⟨b, o, none⟩ → b < r.b
 lt : i < r.L.length
 few : r.L.length ≤ 20001
 deep : lv ≤ 60
theorem lt_heap {w : World} {k : Nat} {o : Obj} (hk : w.heap[k]? = some o) : k < w.heap.size := by
 by_cases hlt : k < w.heap.size
 ·exact hlt
 ·rw [Array.getElem?_eq_none (by omega)] at hk; cases hk
theorem RdAt.below {r : Rdr} {i lv : Nat} {s : Bool} {w w' : World} (h : RdAt r i lv s w) (hb : Below w.heap.size w w') : RdAt r i lv s w' :=
 ⟨by rw [hb.block r.b (lt_heap h.cells)]; exact h.cells, h.toks.below hb, h.away, h.lt, h.few, h.deep⟩
theorem RdAt.c {r : Rdr} {i lv : Nat} {s : Bool} {w : World} (h : RdAt r i lv s w) :
  w.cell? ⟨r.b, 0, none⟩ = some (.slice r.p r.L.length r.cap) ∧ w.cell? ⟨r.b, 1, none⟩ = some (.int .i64 (i : Int)) ∧ w.cell? ⟨r.b, 2, none⟩ = some (.int .i64 (lv : Int)) ∧ w.cell? ⟨r.b, 3, none⟩ = some (.bool s) ∧ ∀ k, w.frozen? ⟨r.b, k, none⟩ = false :=
 ⟨by rw [Lib.cell_of_heap h.cells]; rfl, by rw [Lib.cell_of_heap h.cells]; rfl, by rw [Lib.cell_of_heap h.cells]; rfl, by rw [Lib.cell_of_heap h.cells]; rfl, fun k => Lib.frozen_of_heap h.cells k⟩
theorem RdAt.tok {r : Rdr} {i lv : Nat} {s : Bool} {w : World} (h : RdAt r i lv s w) : ∃ b off, r.p = some ⟨b, off, none⟩ ∧
  w.cell? ⟨b, off + i * 3, none⟩ = some (.int .i64 (r.L.getD i tok0).kind) ∧ w.cell? ⟨b, off + i * 3 + 1, none⟩ = some (.string (r.L.getD i tok0).text) ∧ w.cell? ⟨b, off + i * 3 + 2, none⟩ = some (.int .i64 (r.L.getD i tok0).at_) := by
 have hlt := h.lt
 obtain ⟨_, _, _, hl⟩ := h.toks.lies
 obtain ⟨b, off, e, hc⟩ := hl (by omega)
 exact ⟨b, off, e, tok_cells hc i hlt⟩
/-- a token as it lies -/
def tkC (k : Int) (t : ByteArray) (a : Int) : Array Value := #[.int .i64 k, .string t, .int .i64 a]
theorem results_cellT {fn : Func} {t : Tmp} {ty : TypeId} (h : fn.results = #[.cell t ty]) (tmps : Array Value) (P : Program) (w : World) (a : Addr) (v : Value) (ht : tmps.getD t undef = .pointer (some a)) (hl : (loadVar ty a).run P w = .ok v w) :
  (results fn tmps).run P w = .ok v w := by
 have ht' : tmps[t]?.getD undef = .pointer (some a) := by simpa using ht
 simp [results, h, ht', asAddr, hl]
theorem load_tok (W : World) (b : Nat) (k : Int) (t : ByteArray) (a : Int) (h : W.heap[b]? = some (.cells (tkC k t a) 55 (0, 0))) :
  (loadVar 55 ⟨b, 0, none⟩).run Tryz.prog W = .ok (.agg (tkC k t a)) W := by
 have c0 : W.cell? ⟨b, 0, none⟩ = some (.int .i64 k) := by rw [Lib.cell_of_heap h]; rfl
 have c1 : W.cell? ⟨b, 1, none⟩ = some (.string t) := by rw [Lib.cell_of_heap h]; rfl
 have c2 : W.cell? ⟨b, 2, none⟩ = some (.int .i64 a) := by rw [Lib.cell_of_heap h]; rfl
 unfold tkC
 go_simp
theorem boxB (w : World) (o : Obj) : Below w.heap.size w (w.alloc o) := (Below.refl _ _).alloc (Nat.le_refl _) o
/-- the panic of a reader at the token i -/
def stopAt (i : Nat) : Ending := .panicked [{ v := .iface 70 (.int .i64 (i : Int)), recovered := false }]
set_option maxRecDepth 100000 in
set_option maxHeartbeats 1000000 in
theorem token_any (r : Rdr) (i lv : Nat) (s : Bool) (w : World) (h : RdAt r i lv s w) :
  Calls Tryz.prog 30 #[.pointer (some ⟨r.b, 0, none⟩)] w fun e w' => e = .returned (.agg (tkC (r.L.getD i tok0).kind (r.L.getD i tok0).text (r.L.getD i tok0).at_)) ∧ Below w.heap.size w w' := by
 have HR : Hid (RdAt r i lv s (w.alloc (.cells #[.int .i64 0, .string ⟨#[]⟩, .int .i64 0] 55)).drew) := (h.below (boxB w _)).below ((Below.refl _ _).drew)
 have HN : Hid ((w.alloc (.cells #[.int .i64 0, .string ⟨#[]⟩, .int .i64 0] 55)).drew.heap[w.heap.size]? = some (.cells (tkC 0 ⟨#[]⟩ 0) 55 (0, 0))) := heap_alloc_new w _
 have HB : Hid (Below w.heap.size w (w.alloc (.cells #[.int .i64 0, .string ⟨#[]⟩, .int .i64 0] 55)).drew) := (boxB w _).drew
 have HRB : Hid (r.b < w.heap.size) := lt_heap h.cells
 clear h
 go_enter Tryz.func30, Tryz.ntmps30
 go_wp2_with fail
 obtain ⟨wd, hwd⟩ : ∃ wd, (w.alloc (.cells #[.int .i64 0, .string ⟨#[]⟩, .int .i64 0] 55)).drew = wd := ⟨_, rfl⟩
 refine still_tail 10 (by kernel_rfl) (by kernel_rfl) wd hwd ?_
 rw [hwd] at HR HN HB
 clear hwd
 obtain ⟨c0, c1, c2, c3, fz⟩ := HR.out.c
 have hlt : i < r.L.length := HR.out.lt
 obtain ⟨b, off, hp, t0, t1, t2⟩ := HR.out.tok
 rw [hp] at c0
 have hi : (i : Int) < (r.L.length : Int) := by omega
 generalize hx : r.L.getD i tok0 = x at *
 obtain ⟨k, t, a⟩ := x
 have HX := Lib.hid hx
 clear hx
 simp only at t0 t1 t2
 have d0 : wd.cell? ⟨w.heap.size, 0, none⟩ = some (.int .i64 0) := by rw [Lib.cell_of_heap HN.out]; rfl
 have d1 : wd.cell? ⟨w.heap.size, 1, none⟩ = some (.string ⟨#[]⟩) := by rw [Lib.cell_of_heap HN.out]; rfl
 have d2 : wd.cell? ⟨w.heap.size, 2, none⟩ = some (.int .i64 0) := by rw [Lib.cell_of_heap HN.out]; rfl
 have f0 : ∀ j, wd.frozen? ⟨w.heap.size, j, none⟩ = false := fun j => Lib.frozen_of_heap HN.out j
 simp only [List.take_succ_cons, List.take_zero, List.drop_succ_cons, List.drop_zero]
 repeat still_step
 refine wpStill_nil ?_
 go_wp2_with fail
 have hcell : (((wd.setCell ⟨w.heap.size, 0, none⟩ (.int .i64 k)).setCell ⟨w.heap.size, 1, none⟩ (.string t)).setCell ⟨w.heap.size, 2, none⟩ (.int .i64 a)).heap[w.heap.size]? = some (.cells (tkC k t a) 55 (0, 0)) :=
  heap_setCell_same _ _ _ _ _ _ (heap_setCell_same _ _ _ _ _ _ (heap_setCell_same _ _ _ _ _ _ HN.out))
 have hbel : Below w.heap.size w (((wd.setCell ⟨w.heap.size, 0, none⟩ (.int .i64 k)).setCell ⟨w.heap.size, 1, none⟩ (.string t)).setCell ⟨w.heap.size, 2, none⟩ (.int .i64 a)) :=
  ((HB.out.setCell (p := ⟨w.heap.size, 0, none⟩) (Nat.le_refl _) _).setCell (p := ⟨w.heap.size, 1, none⟩) (Nat.le_refl _) _).setCell (p := ⟨w.heap.size, 2, none⟩) (Nat.le_refl _) _
 refine bodyPost_ret (results_cellT rfl _ _ _ ⟨w.heap.size, 0, none⟩ _ rfl (load_tok _ _ _ _ _ hcell)) rfl ⟨?_, hbel⟩
 rw [HX.out]
set_option maxRecDepth 100000 in
set_option maxHeartbeats 1000000 in
theorem fail_any (r : Rdr) (i lv : Nat) (s : Bool) (w : World) (h : RdAt r i lv s w) :
  Calls Tryz.prog 31 #[.pointer (some ⟨r.b, 0, none⟩)] w fun e w' => e = stopAt i ∧ Below w.heap.size w w' := by
 obtain ⟨c0, c1, c2, c3, fz⟩ := h.c
 have X1 : ∀ o, (w.alloc o).cell? ⟨r.b, 1, none⟩ = some (.int .i64 (i : Int)) := fun o => by rw [(boxB w o).cell (p := ⟨r.b, 1, none⟩) (lt_heap h.cells)]; exact c1
 go_enter Tryz.func31, Tryz.ntmps31
 go_wp2_with fail
 exact ⟨rfl, rfl, boxB w _⟩
end Go.Proofs.YtheigpiffdabnaaGreat
namespace Go.Proofs.YtheigpiffdabnaaGreat
open Go Go.RowKit
theorem field_tok0 (k : Int) (t : ByteArray) (a : Int) (w : World) : (Instr.field 55 (.agg #[.int .i64 k, .string t, .int .i64 a]) 0).run Tryz.prog w = .ok (.int .i64 k) w := by kernel_rfl
theorem field_tok1 (k : Int) (t : ByteArray) (a : Int) (w : World) : (Instr.field 55 (.agg #[.int .i64 k, .string t, .int .i64 a]) 1).run Tryz.prog w = .ok (.string t) w := by kernel_rfl
theorem field_tok2 (k : Int) (t : ByteArray) (a : Int) (w : World) : (Instr.field 55 (.agg #[.int .i64 k, .string t, .int .i64 a]) 2).run Tryz.prog w = .ok (.int .i64 a) w := by kernel_rfl
attribute [local go_sem] field_tok0 field_tok1 field_tok2
/-- nothing old has changed but the reader -/
def Mv (r : Rdr) (w w' : World) : Prop := But (fun a => a.block = r.b) w w'
theorem Mv.refl (r : Rdr) (w : World) : Mv r w w := But.refl _ _
theorem Mv.trans {r : Rdr} {a b c : World} (h : Mv r a b) (k : Mv r b c) : Mv r a c := But.trans h k
theorem Mv.of_below {r : Rdr} {w w' : World} (h : Below w.heap.size w w') : Mv r w w' := But.of_below h
theorem RdAt.keep {r : Rdr} {i lv i' lv' : Nat} {s s' : Bool} {w w' : World} (h : RdAt r i lv s w) (hb : Mv r w w') (hc : w'.heap[r.b]? = some (.cells #[.slice r.p r.L.length r.cap, .int .i64 (i' : Int), .int .i64 (lv' : Int), .bool s'] 69 (0, 0)))
  (hl : i' < r.L.length) (hd : lv' ≤ 60) : RdAt r i' lv' s' w' :=
 ⟨hc, SlIs.but h.toks hb (fun b o i e => Nat.ne_of_lt (h.away b o e)), h.away, hl, h.few, hd⟩
set_option maxRecDepth 100000 in
theorem here_any (r : Rdr) (i lv : Nat) (s : Bool) (w : World) (h : RdAt r i lv s w) :
  Calls Tryz.prog 57 #[.pointer (some ⟨r.b, 0, none⟩)] w fun e w' => e = .returned (.int .i64 (r.L.getD i tok0).at_) ∧ Below w.heap.size w w' := by
 have HR := Lib.hid h
 clear h
 go_enter Tryz.func57, Tryz.ntmps57
 go_wp2_with fail
 refine (token_any r i lv s w HR.out).mono ?_
 rintro e w1 ⟨rfl, hb⟩
 have HB := Lib.hid hb
 clear hb
 unfold tkC
 go_wp2_with fail
 go_ret
 exact ⟨rfl, HB.out⟩
set_option maxRecDepth 100000 in
theorem at_any (r : Rdr) (i lv : Nat) (s : Bool) (sg : ByteArray) (w : World) (h : RdAt r i lv s w) :
  Calls Tryz.prog 80 #[.pointer (some ⟨r.b, 0, none⟩), .string sg] w fun e w' => e = .returned (.bool ((r.L.getD i tok0).text.toList == sg.toList)) ∧ Below w.heap.size w w' := by
 have HR := Lib.hid h
 clear h
 go_enter Tryz.func80, Tryz.ntmps80
 go_wp2_with fail
 refine (token_any r i lv s w HR.out).mono ?_
 rintro e w1 ⟨rfl, hb⟩
 have HB := Lib.hid hb
 clear hb
 unfold tkC
 go_wp2_with fail
 go_ret
 exact ⟨rfl, HB.out⟩
theorem take_world (r : Rdr) (i lv : Nat) (s : Bool) (w w2 : World) (k : Int) (t : ByteArray) (a : Int) (HR : RdAt r i lv s w) (HR2 : RdAt r i lv s w2) (HN2 : w2.heap[w.heap.size]? = some (.cells (tkC 0 ⟨#[]⟩ 0) 55 (0, 0))) (HM2 : Below w.heap.size w w2) (hi : i + 1 < r.L.length) :
  (((((w2.alloc (.cells #[.int .i64 k, .string t, .int .i64 a] 55)).setCell ⟨r.b, 1, none⟩ (.int .i64 ((i : Int) + 1))).setCell ⟨w.heap.size, 0, none⟩ (.int .i64 k)).setCell ⟨w.heap.size, 1, none⟩ (.string t)).setCell ⟨w.heap.size, 2, none⟩ (.int .i64 a)).heap[w.heap.size]? = some (.cells (tkC k t a) 55 (0, 0)) ∧
  RdAt r (i + 1) lv s (((((w2.alloc (.cells #[.int .i64 k, .string t, .int .i64 a] 55)).setCell ⟨r.b, 1, none⟩ (.int .i64 ((i : Int) + 1))).setCell ⟨w.heap.size, 0, none⟩ (.int .i64 k)).setCell ⟨w.heap.size, 1, none⟩ (.string t)).setCell ⟨w.heap.size, 2, none⟩ (.int .i64 a)) ∧
  Mv r w (((((w2.alloc (.cells #[.int .i64 k, .string t, .int .i64 a] 55)).setCell ⟨r.b, 1, none⟩ (.int .i64 ((i : Int) + 1))).setCell ⟨w.heap.size, 0, none⟩ (.int .i64 k)).setCell ⟨w.heap.size, 1, none⟩ (.string t)).setCell ⟨w.heap.size, 2, none⟩ (.int .i64 a)) := by
 have hrb : r.b < w.heap.size := lt_heap HR.cells
 have q1 : (w2.alloc (.cells #[.int .i64 k, .string t, .int .i64 a] 55)).heap[w.heap.size]? = some (.cells (tkC 0 ⟨#[]⟩ 0) 55 (0, 0)) := by rw [(boxB w2 _).block _ (lt_heap HN2)]; exact HN2
 have q2 : (w2.alloc (.cells #[.int .i64 k, .string t, .int .i64 a] 55)).heap[r.b]? = some (.cells #[.slice r.p r.L.length r.cap, .int .i64 (i : Int), .int .i64 (lv : Int), .bool s] 69 (0, 0)) := by rw [(boxB w2 _).block _ (lt_heap HR2.cells)]; exact HR2.cells
 have m1 : Mv r w (w2.alloc (.cells #[.int .i64 k, .string t, .int .i64 a] 55)) := (Mv.of_below HM2).trans (But.alloc _ _)
 generalize w2.alloc (.cells #[.int .i64 k, .string t, .int .i64 a] 55) = W1 at *
 have q3 : (W1.setCell ⟨r.b, 1, none⟩ (.int .i64 ((i : Int) + 1))).heap[w.heap.size]? = some (.cells (tkC 0 ⟨#[]⟩ 0) 55 (0, 0)) := (Below.heap_setCell W1 ⟨r.b, 1, none⟩ _ w.heap.size (by show w.heap.size ≠ r.b; omega)).trans q1
 have q4 := heap_setCell_same W1 r.b 1 _ _ (.int .i64 ((i : Int) + 1)) q2
 have m2 : Mv r w (W1.setCell ⟨r.b, 1, none⟩ (.int .i64 ((i : Int) + 1))) := m1.trans (But.setCell W1 ⟨r.b, 1, none⟩ _ rfl)
 generalize W1.setCell ⟨r.b, 1, none⟩ (.int .i64 ((i : Int) + 1)) = W2 at *
 have hmv : Mv r w (((W2.setCell ⟨w.heap.size, 0, none⟩ (.int .i64 k)).setCell ⟨w.heap.size, 1, none⟩ (.string t)).setCell ⟨w.heap.size, 2, none⟩ (.int .i64 a)) :=
  But.setCell_new (But.setCell_new (But.setCell_new m2 ⟨w.heap.size, 0, none⟩ _ (Nat.le_refl _)) ⟨w.heap.size, 1, none⟩ _ (Nat.le_refl _)) ⟨w.heap.size, 2, none⟩ _ (Nat.le_refl _)
 refine ⟨heap_setCell_same _ _ _ _ _ _ (heap_setCell_same _ _ _ _ _ _ (heap_setCell_same _ _ _ _ _ _ q3)), HR.keep hmv ?_ hi HR.deep, hmv⟩
 have e : ∀ (W : World) (j : Nat) (v : Value), (W.setCell ⟨w.heap.size, j, none⟩ v).heap[r.b]? = W.heap[r.b]? := fun W j v => Below.heap_setCell W ⟨w.heap.size, j, none⟩ v r.b (by show r.b ≠ w.heap.size; omega)
 rw [e, e, e]
 exact q4
set_option maxRecDepth 100000 in
set_option maxHeartbeats 1000000 in
theorem take_any (r : Rdr) (i lv : Nat) (s : Bool) (w : World) (h : RdAt r i lv s w) (hi : i + 1 < r.L.length) :
  Calls Tryz.prog 74 #[.pointer (some ⟨r.b, 0, none⟩)] w fun e w' => e = .returned (.agg (tkC (r.L.getD i tok0).kind (r.L.getD i tok0).text (r.L.getD i tok0).at_)) ∧ RdAt r (i + 1) lv s w' ∧ Mv r w w' := by
 have HR := Lib.hid h
 have HI := Lib.hid hi
 have HR1 := Lib.hid (h.below (boxB w (.cells #[.int .i64 0, .string ⟨#[]⟩, .int .i64 0] 55)))
 have HN1 : Hid ((w.alloc (.cells #[.int .i64 0, .string ⟨#[]⟩, .int .i64 0] 55)).heap[w.heap.size]? = some (.cells (tkC 0 ⟨#[]⟩ 0) 55 (0, 0))) := heap_alloc_new w _
 have HM1 : Hid (Below w.heap.size w (w.alloc (.cells #[.int .i64 0, .string ⟨#[]⟩, .int .i64 0] 55))) := boxB w _
 have HRB : Hid (r.b < w.heap.size) := lt_heap h.cells
 clear h
 go_enter Tryz.func74, Tryz.ntmps74
 go_wp2_with fail
 generalize w.alloc (.cells #[.int .i64 0, .string ⟨#[]⟩, .int .i64 0] 55) = w1 at *
 refine (token_any r i lv s w1 HR1.out).mono ?_
 rintro e w2 ⟨rfl, hb⟩
 have HR2 := Lib.hid (HR1.out.below hb)
 have HN2 : Hid (w2.heap[w.heap.size]? = some (.cells (tkC 0 ⟨#[]⟩ 0) 55 (0, 0))) := by show _ = _; rw [hb.block _ (lt_heap HN1.out)]; exact HN1.out
 have HM2 := Lib.hid (HM1.out.trans (hb.mono HM1.out.size))
 clear hb
 generalize hx : r.L.getD i tok0 = x at *
 obtain ⟨k, t, a⟩ := x
 have HX := Lib.hid hx
 clear hx
 obtain ⟨c0, c1, c2, c3, fz⟩ := HR2.out.c
 have X1 : ∀ o, (w2.alloc o).cell? ⟨r.b, 1, none⟩ = some (.int .i64 (i : Int)) := fun o => by rw [(boxB w2 o).cell (p := ⟨r.b, 1, none⟩) (lt_heap HR2.out.cells)]; exact c1
 have X2 : ∀ o, (w2.alloc o).frozen? ⟨r.b, 1, none⟩ = false := fun o => by rw [(boxB w2 o).frozen (p := ⟨r.b, 1, none⟩) (lt_heap HR2.out.cells)]; exact fz 1
 have hne : ¬ w2.heap.size = r.b := by have := lt_heap HR2.out.cells; omega
 have hne2 : ¬ r.b = w2.heap.size := by have := lt_heap HR2.out.cells; omega
 have hne3 : ¬ w.heap.size = r.b := by have := HRB.out; omega
 have hne4 : ¬ r.b = w.heap.size := by have := HRB.out; omega
 have hwr : IntKind.i64.wrap ((i : Int) + 1) = (i : Int) + 1 := IntWalk.i64_in _ (by have := HR2.out.few; omega)
 have hN : ∀ o, (w2.alloc o).heap[w.heap.size]? = some (.cells (tkC 0 ⟨#[]⟩ 0) 55 (0, 0)) := fun o => by rw [(boxB w2 o).block _ (lt_heap HN2.out)]; exact HN2.out
 have D0 : ∀ o, (w2.alloc o).cell? ⟨w.heap.size, 0, none⟩ = some (.int .i64 0) := fun o => by rw [Lib.cell_of_heap (hN o)]; rfl
 have D1 : ∀ o, (w2.alloc o).cell? ⟨w.heap.size, 1, none⟩ = some (.string ⟨#[]⟩) := fun o => by rw [Lib.cell_of_heap (hN o)]; rfl
 have D2 : ∀ o, (w2.alloc o).cell? ⟨w.heap.size, 2, none⟩ = some (.int .i64 0) := fun o => by rw [Lib.cell_of_heap (hN o)]; rfl
 have F0 : ∀ o j, (w2.alloc o).frozen? ⟨w.heap.size, j, none⟩ = false := fun o j => Lib.frozen_of_heap (hN o) j
 have HNN := Lib.hid hN
 clear hN
 unfold tkC
 go_wp2_with fail
 obtain ⟨hcell, hrd, hmv⟩ := take_world r i lv s w w2 k t a HR.out HR2.out HN2.out HM2.out HI.out
 refine bodyPost_ret (results_cellT rfl _ _ _ ⟨w.heap.size, 0, none⟩ _ rfl (load_tok _ _ _ _ _ hcell)) rfl ⟨by rw [HX.out], hrd, hmv⟩
end Go.Proofs.YtheigpiffdabnaaGreat
namespace Go.Proofs.YtheigpiffdabnaaGreat
open Go Go.RowKit
attribute [local go_sem] field_tok0 field_tok1 field_tok2
/-- whether a text is one of several -/
def hit (t : ByteArray) (V : List ByteArray) : Bool := V.any fun v => t.toList == v.toList
/-- texts in a row -/
def TextsAt (w : World) (b o : Nat) (V : List ByteArray) : Prop := ∀ j (hj : j < V.length), w.cell? ⟨b, o + j, none⟩ = some (.string V[j])
theorem TextsAt.below {w w' : World} {b o : Nat} {V : List ByteArray} (h : TextsAt w b o V) (hb : Below w.heap.size w w') : TextsAt w' b o V := fun j hj => by
 rw [hb.cell (p := ⟨b, o + j, none⟩) (World.block_lt_of_cell? w _ (h j hj))]; exact h j hj
def noHit (t : ByteArray) (V : List ByteArray) (j : Nat) : Prop := ∀ i (hi : i < V.length), i < j → (t.toList == V[i].toList) = false
theorem hit_yes {t : ByteArray} {V : List ByteArray} {j : Nat} (hj : j < V.length) (h : (t.toList == V[j].toList) = true) : hit t V = true := List.any_eq_true.2 ⟨V[j], List.getElem_mem hj, h⟩
theorem hit_no {t : ByteArray} {V : List ByteArray} (h : noHit t V V.length) : hit t V = false := by
 unfold hit
 rw [List.any_eq_false]
 intro v hv
 obtain ⟨i, hi, rfl⟩ := List.getElem_of_mem hv
 rw [h i hi hi]
 simp
set_option maxRecDepth 100000 in
set_option maxHeartbeats 1000000 in
theorem index_at (r : Rdr) (i lv : Nat) (s : Bool) (V : List ByteArray) (b o n cap : Nat) (w : World) (h : RdAt r i lv s w) (hn : n = V.length) (hn2 : n ≤ 100) (hV : TextsAt w b o V) :
  Calls Tryz.prog 95 #[.slice (some ⟨b, o, none⟩) n cap, .func (.func 80) #[.pointer (some ⟨r.b, 0, none⟩)] #[]] w fun e w' => (∃ k : Int, e = .returned (.int .i64 k) ∧ decide (0 ≤ k) = hit (r.L.getD i tok0).text V) ∧ Below w.heap.size w w' := by
 have HR := Lib.hid h
 have HV := Lib.hid hV
 have HN := Lib.hid hn
 clear h hV hn
 go_enter Tryz.func95, Tryz.ntmps95
 go_wp2_with fail
 go_loopw [4, 5, 8] (fun _ _ i' wr => ∃ j : Nat, j ≤ n ∧ i' = .int .i64 j ∧ Hid (noHit (r.L.getD i tok0).text V j) ∧ Hid (Below w.heap.size w wr)) (fun _ _ i' _ => n - (intOf i').toNat)
 case atStart => exact ⟨0, Nat.zero_le _, rfl, fun i hi h => absurd h (by omega), Below.refl _ _⟩
 case round =>
  obtain ⟨j, hj, rfl, hg, hb⟩ := hrel
  by_cases hlt : j < n
  ·have hjV : j < V.length := by rw [← HN.out]; exact hlt
   have c0 := (HV.out.below hb.out) j hjV
   have HRW := Lib.hid (HR.out.below hb.out)
   have hji : (j : Int) < (n : Int) := by omega
   generalize hv : V[j] = v at c0
   have HVE := Lib.hid hv
   clear hv
   go_wp2_with fail
   refine (at_any r i lv s v wr HRW.out).mono ?_
   rintro e w1 ⟨rfl, hb1⟩
   have HB1 := Lib.hid (hb.out.trans (hb1.mono hb.out.size))
   have HG := Lib.hid hg.out
   clear hb hb1 c0 hg
   cases hm : ((r.L.getD i tok0).text.toList == v.toList)
   ·have HS : Hid (noHit (r.L.getD i tok0).text V (j + 1)) := by
     intro q hq hqj
     by_cases e : q = j
     ·subst e; rw [HVE.out]; exact hm
     ·exact HG.out q hq (by omega)
    clear hm
    go_wp2_with fail
    go_roundw
    case rel => exact ⟨j + 1, by omega, by go_num, HS, HB1.out⟩
    case measure => simp [intOf]; omega
   ·have HY : Hid (hit (r.L.getD i tok0).text V = true) := hit_yes hjV (by rw [HVE.out]; exact hm)
    clear hm
    go_wp2_with fail
    go_ret
    exact ⟨⟨(j : Int), rfl, by rw [HY.out]; exact decide_eq_true (by omega)⟩, HB1.out⟩
  ·have hje : j = n := by omega
   have HY : Hid (hit (r.L.getD i tok0).text V = false) := hit_no (by rw [← HN.out, ← hje]; exact hg.out)
   have HB1 := Lib.hid hb.out
   clear hg hb
   go_wp2_with fail
   go_ret
   exact ⟨⟨-1, rfl, by rw [HY.out]; rfl⟩, HB1.out⟩
set_option maxRecDepth 100000 in
theorem contains_at (r : Rdr) (i lv : Nat) (s : Bool) (V : List ByteArray) (b o n cap : Nat) (w : World) (h : RdAt r i lv s w) (hn : n = V.length) (hn2 : n ≤ 100) (hV : TextsAt w b o V) :
  Calls Tryz.prog 90 #[.slice (some ⟨b, o, none⟩) n cap, .func (.func 80) #[.pointer (some ⟨r.b, 0, none⟩)] #[]] w fun e w' => e = .returned (.bool (hit (r.L.getD i tok0).text V)) ∧ Below w.heap.size w w' := by
 have HC := Lib.hid (index_at r i lv s V b o n cap w h hn hn2 hV)
 clear h hV hn
 go_enter Tryz.func90, Tryz.ntmps90
 go_wp2_with fail
 refine HC.out.mono ?_
 rintro e w1 ⟨⟨k, rfl, hk⟩, hb⟩
 have HB := Lib.hid hb
 clear hb
 go_wp2_with fail
 go_ret
 exact ⟨by first | rfl | rw [← hk], HB.out⟩
set_option maxRecDepth 100000 in
set_option maxHeartbeats 1000000 in
theorem sign_yes (r : Rdr) (i lv : Nat) (s : Bool) (V : List ByteArray) (b o n cap : Nat) (w : World) (h : RdAt r i lv s w) (hn : n = V.length) (hn2 : n ≤ 100) (hV : TextsAt w b o V) (hm : hit (r.L.getD i tok0).text V = true) (hi : i + 1 < r.L.length) :
  Calls Tryz.prog 86 #[.pointer (some ⟨r.b, 0, none⟩), .slice (some ⟨b, o, none⟩) n cap] w fun e w' => e = .returned (.string (r.L.getD i tok0).text) ∧ RdAt r (i + 1) lv s w' ∧ Mv r w w' := by
 have HR := Lib.hid h
 have HC := Lib.hid (contains_at r i lv s V b o n cap w h hn hn2 hV)
 have HH := Lib.hid hm
 clear h hV hn hm
 go_enter Tryz.func86, Tryz.ntmps86
 go_wp2_with fail
 refine HC.out.mono ?_
 rintro e w1 ⟨rfl, hb⟩
 have HR1 := Lib.hid (HR.out.below hb)
 have HM1 := Lib.hid (Mv.of_below (r := r) hb)
 clear hb HC
 rw [HH.out]
 go_wp2_with fail
 refine (take_any r i lv s w1 HR1.out hi).mono ?_
 rintro e w2 ⟨rfl, hr2, hm2⟩
 have HR2 := Lib.hid hr2
 have HM2 := Lib.hid (HM1.out.trans hm2)
 clear hr2 hm2
 unfold tkC
 go_wp2_with fail
 go_ret
 exact ⟨rfl, HR2.out, HM2.out⟩
set_option maxRecDepth 100000 in
set_option maxHeartbeats 1000000 in
theorem sign_no (r : Rdr) (i lv : Nat) (s : Bool) (V : List ByteArray) (b o n cap : Nat) (w : World) (h : RdAt r i lv s w) (hn : n = V.length) (hn2 : n ≤ 100) (hV : TextsAt w b o V) (hm : hit (r.L.getD i tok0).text V = false) :
  Calls Tryz.prog 86 #[.pointer (some ⟨r.b, 0, none⟩), .slice (some ⟨b, o, none⟩) n cap] w fun e w' => e = .returned (.string ⟨#[]⟩) ∧ Below w.heap.size w w' := by
 have HC := Lib.hid (contains_at r i lv s V b o n cap w h hn hn2 hV)
 have HH := Lib.hid hm
 clear h hV hn hm
 go_enter Tryz.func86, Tryz.ntmps86
 go_wp2_with fail
 refine HC.out.mono ?_
 rintro e w1 ⟨rfl, hb⟩
 have HB := Lib.hid hb
 clear hb HC
 rw [HH.out]
 go_wp2_with fail
 go_ret
 exact ⟨rfl, HB.out⟩
/-- a mark is the next token -/
def isMark (r : Rdr) (i : Nat) (sg : ByteArray) : Bool := (r.L.getD i tok0).text.toList == sg.toList
theorem mark_full {r : Rdr} {i : Nat} {sg : ByteArray} (hm : isMark r i sg = true) (hs : sg.size ≠ 0) : (r.L.getD i tok0).text.toList.isEmpty = false := by
 unfold isMark at hm
 rw [beq_iff_eq] at hm
 rw [hm, ByteArray.toList_eq]
 cases hd : sg.data.toList with
 | nil => exact absurd (by have := congrArg List.length hd; simpa using this) hs
 | cons a l => rfl
theorem hit_one (t sg : ByteArray) : hit t [sg] = (t.toList == sg.toList) := by simp [hit]
theorem texts_one (w : World) (sg : ByteArray) (t : TypeId) : TextsAt (w.alloc (.cells #[.string sg] t)) w.heap.size 0 [sg] := by
 intro j hj
 have : j = 0 := by simpa using hj
 subst this
 rw [Lib.cell_of_heap (heap_alloc_new w _)]
 rfl
set_option maxRecDepth 100000 in
set_option maxHeartbeats 1000000 in
theorem took_yes (r : Rdr) (i lv : Nat) (s : Bool) (sg : ByteArray) (w : World) (h : RdAt r i lv s w) (hm : isMark r i sg = true) (hs : sg.size ≠ 0) (hi : i + 1 < r.L.length) :
  Calls Tryz.prog 73 #[.pointer (some ⟨r.b, 0, none⟩), .string sg] w fun e w' => e = .returned (.bool true) ∧ RdAt r (i + 1) lv s w' ∧ Mv r w w' := by
 have HR1 := Lib.hid (h.below (boxB w (.cells #[.string sg] 9)))
 have HM1 := Lib.hid (Mv.of_below (r := r) (boxB w (.cells #[.string sg] 9)))
 have HT := Lib.hid (texts_one w sg 9)
 have HH : Hid (hit (r.L.getD i tok0).text [sg] = true) := by show _ = _; rw [hit_one]; exact hm
 have HNE : Hid ((r.L.getD i tok0).text.toList.isEmpty = false) := mark_full hm hs
 clear h hm
 go_enter Tryz.func73, Tryz.ntmps73
 go_wp2_with fail
 refine (sign_yes r i lv s [sg] w.heap.size 0 1 1 _ HR1.out rfl (by omega) HT.out HH.out hi).mono ?_
 rintro e w2 ⟨rfl, hr2, hm2⟩
 have HR2 := Lib.hid hr2
 have HM2 := Lib.hid (HM1.out.trans hm2)
 clear hr2 hm2
 go_wp2_with fail
 go_ret
 refine ⟨?_, HR2.out, HM2.out⟩
 have e := HNE.out
 rw [List.getD_eq_getElem?_getD] at e
 show Ending.returned (.bool (!((r.L[i]?.getD tok0).text.toList.isEmpty))) = _
 rw [e]
 rfl
set_option maxRecDepth 100000 in
set_option maxHeartbeats 1000000 in
theorem took_no (r : Rdr) (i lv : Nat) (s : Bool) (sg : ByteArray) (w : World) (h : RdAt r i lv s w) (hm : isMark r i sg = false) :
  Calls Tryz.prog 73 #[.pointer (some ⟨r.b, 0, none⟩), .string sg] w fun e w' => e = .returned (.bool false) ∧ Below w.heap.size w w' := by
 have HR1 := Lib.hid (h.below (boxB w (.cells #[.string sg] 9)))
 have HB1 := Lib.hid (boxB w (.cells #[.string sg] 9))
 have HT := Lib.hid (texts_one w sg 9)
 have HH : Hid (hit (r.L.getD i tok0).text [sg] = false) := by show _ = _; rw [hit_one]; exact hm
 clear h hm
 go_enter Tryz.func73, Tryz.ntmps73
 go_wp2_with fail
 refine (sign_no r i lv s [sg] w.heap.size 0 1 1 _ HR1.out rfl (by omega) HT.out HH.out).mono ?_
 rintro e w2 ⟨rfl, hb⟩
 have HB2 := Lib.hid (HB1.out.trans (hb.mono HB1.out.size))
 clear hb
 go_wp2_with fail
 go_ret
 exact ⟨rfl, HB2.out⟩
set_option maxRecDepth 100000 in
set_option maxHeartbeats 1000000 in
/-- a mark that must be there, and is -/
theorem need_yes (r : Rdr) (i lv : Nat) (s : Bool) (sg : ByteArray) (w : World) (h : RdAt r i lv s w) (hm : isMark r i sg = true) (hs : sg.size ≠ 0) (hi : i + 1 < r.L.length) :
  Calls Tryz.prog 58 #[.pointer (some ⟨r.b, 0, none⟩), .string sg] w fun e w' => e = .returned (.tuple #[]) ∧ RdAt r (i + 1) lv s w' ∧ Mv r w w' := by
 have HC := Lib.hid (took_yes r i lv s sg w h hm hs hi)
 clear h hm
 go_enter Tryz.func58, Tryz.ntmps58
 go_wp2_with fail
 refine HC.out.mono ?_
 rintro e w2 ⟨rfl, hr2, hm2⟩
 have HR2 := Lib.hid hr2
 have HM2 := Lib.hid hm2
 clear hr2 hm2
 go_wp2_with fail
 first | go_end0 | refine bodyPost_ret (results_none rfl _ _ _) rfl ?_
 exact ⟨rfl, HR2.out, HM2.out⟩
set_option maxRecDepth 100000 in
set_option maxHeartbeats 1000000 in
/-- a mark that must be there, and is not -/
theorem need_no (r : Rdr) (i lv : Nat) (s : Bool) (sg : ByteArray) (w : World) (h : RdAt r i lv s w) (hm : isMark r i sg = false) :
  Calls Tryz.prog 58 #[.pointer (some ⟨r.b, 0, none⟩), .string sg] w fun e w' => e = stopAt i ∧ Below w.heap.size w w' := by
 have HC := Lib.hid (took_no r i lv s sg w h hm)
 have HR := Lib.hid h
 clear h hm
 go_enter Tryz.func58, Tryz.ntmps58
 go_wp2_with fail
 refine HC.out.mono ?_
 rintro e w2 ⟨rfl, hb⟩
 have HB2 := Lib.hid hb
 have HR2 := Lib.hid (HR.out.below hb)
 clear hb
 go_wp2_with fail
 refine (fail_any r i lv s w2 HR2.out).mono ?_
 rintro e w3 ⟨rfl, hb⟩
 have HB3 := Lib.hid (HB2.out.trans (hb.mono HB2.out.size))
 clear hb
 unfold stopAt
 go_wp2_with fail
 exact ⟨rfl, rfl, HB3.out⟩
end Go.Proofs.YtheigpiffdabnaaGreat
namespace Go.Proofs.YtheigpiffdabnaaGreat
open Go Go.RowKit
attribute [local go_sem] field_tok0 field_tok1 field_tok2
set_option maxRecDepth 100000 in
set_option maxHeartbeats 1000000 in
theorem name_yes (r : Rdr) (i lv : Nat) (s : Bool) (w : World) (h : RdAt r i lv s w) (hk : (r.L.getD i tok0).kind = 1) (hi : i + 1 < r.L.length) :
  Calls Tryz.prog 59 #[.pointer (some ⟨r.b, 0, none⟩)] w fun e w' => e = .returned (.string (r.L.getD i tok0).text) ∧ RdAt r (i + 1) lv s w' ∧ Mv r w w' := by
 have HR := Lib.hid h
 have hk2 : (r.L[i]?.getD tok0).kind = 1 := by rw [← List.getD_eq_getElem?_getD]; exact hk
 clear h hk
 go_enter Tryz.func59, Tryz.ntmps59
 go_wp2_with fail
 refine (token_any r i lv s w HR.out).mono ?_
 rintro e w1 ⟨rfl, hb⟩
 have HR1 := Lib.hid (HR.out.below hb)
 have HM1 := Lib.hid (Mv.of_below (r := r) hb)
 clear hb
 unfold tkC
 go_wp2_with fail
 refine (take_any r i lv s w1 HR1.out hi).mono ?_
 rintro e w2 ⟨rfl, hr2, hm2⟩
 have HR2 := Lib.hid hr2
 have HM2 := Lib.hid (HM1.out.trans hm2)
 clear hr2 hm2
 unfold tkC
 go_wp2_with fail
 go_ret
 exact ⟨rfl, HR2.out, HM2.out⟩
set_option maxRecDepth 100000 in
set_option maxHeartbeats 1000000 in
theorem name_no (r : Rdr) (i lv : Nat) (s : Bool) (w : World) (h : RdAt r i lv s w) (hk : (r.L.getD i tok0).kind ≠ 1) :
  Calls Tryz.prog 59 #[.pointer (some ⟨r.b, 0, none⟩)] w fun e w' => e = stopAt i ∧ Below w.heap.size w w' := by
 have HR := Lib.hid h
 have hk2 : ¬ (r.L[i]?.getD tok0).kind = 1 := by rw [← List.getD_eq_getElem?_getD]; exact hk
 have hk3 : ((r.L[i]?.getD tok0).kind == 1) = false := beq_eq_false_iff_ne.2 hk2
 clear h hk
 go_enter Tryz.func59, Tryz.ntmps59
 go_wp2_with fail
 refine (token_any r i lv s w HR.out).mono ?_
 rintro e w1 ⟨rfl, hb⟩
 have HR1 := Lib.hid (HR.out.below hb)
 have HB1 := Lib.hid hb
 clear hb
 unfold tkC
 go_wp2_with fail
 refine (fail_any r i lv s w1 HR1.out).mono ?_
 rintro e w3 ⟨rfl, hb⟩
 have HB3 := Lib.hid (HB1.out.trans (hb.mono HB1.out.size))
 clear hb
 unfold stopAt
 go_wp2_with fail
 exact ⟨rfl, rfl, HB3.out⟩
/-- a node as it lies -/
def ndC (q : Raw) : Array Value := #[.int .i64 q.kind, .string q.text, .int .i64 q.at_, .slice q.p q.n q.cap]
theorem load_node (W : World) (b : Nat) (q : Raw) (h : W.heap[b]? = some (.cells (ndC q) 37 (0, 0))) :
  (loadVar 37 ⟨b, 0, none⟩).run Tryz.prog W = .ok (.agg (ndC q)) W := by
 have c0 : W.cell? ⟨b, 0, none⟩ = some (.int .i64 q.kind) := by rw [Lib.cell_of_heap h]; rfl
 have c1 : W.cell? ⟨b, 1, none⟩ = some (.string q.text) := by rw [Lib.cell_of_heap h]; rfl
 have c2 : W.cell? ⟨b, 2, none⟩ = some (.int .i64 q.at_) := by rw [Lib.cell_of_heap h]; rfl
 have c3 : W.cell? ⟨b, 3, none⟩ = some (.slice q.p q.n q.cap) := by rw [Lib.cell_of_heap h]; rfl
 unfold ndC
 go_simp
set_option maxRecDepth 100000 in
set_option maxHeartbeats 1000000 in
theorem node_any (k : Int) (t : ByteArray) (a : Int) (p : Option Addr) (n cap : Nat) (w : World) :
  Calls Tryz.prog 62 #[.int .i64 k, .string t, .int .i64 a, .slice p n cap] w fun e w' => e = .returned (.agg (ndC ⟨k, t, a, p, n, cap⟩)) ∧ Below w.heap.size w w' := by
 have HB := Lib.hid (boxB w (.cells #[.int .i64 0, .string ⟨#[]⟩, .int .i64 0, .slice none 0 0] 37))
 have HN : Hid ((w.alloc (.cells #[.int .i64 0, .string ⟨#[]⟩, .int .i64 0, .slice none 0 0] 37)).heap[w.heap.size]? = some (.cells (ndC ⟨0, ⟨#[]⟩, 0, none, 0, 0⟩) 37 (0, 0))) := heap_alloc_new w _
 go_enter Tryz.func62, Tryz.ntmps62
 go_wp2_with fail
 refine bodyPost_ret (results_cellT rfl _ _ _ ⟨w.heap.size, 0, none⟩ _ rfl (load_node _ _ ⟨k, t, a, p, n, cap⟩ (heap_alloc_new w _))) rfl ⟨rfl, boxB w _⟩
/-- what a rule leaves: a tree of its own blocks and the token behind it, or a panic at a token -/
def RulePost (r : Rdr) (x : Except Nat (Tree × Nat)) (lv : Nat) (s : Bool) (w : World) (e : Ending) (w' : World) : Prop :=
 match x with
 | .ok (t, j) => ∃ q : Raw, e = .returned (.agg (ndC q)) ∧ IsT (fun b => w.heap.size ≤ b) w' q t ∧ RdAt r j lv s w' ∧ Mv r w w'
 | .error k => e = stopAt k ∧ Mv r w w'
theorem Mv.block {r : Rdr} {w w' : World} (h : Mv r w w') {k : Nat} (hk : k < w.heap.size) (hr : k ≠ r.b) : w'.heap[k]? = w.heap[k]? := But.block h k hk (fun a ha q => hr (by rw [← ha]; exact q))
set_option maxRecDepth 100000 in
set_option maxHeartbeats 1000000 in
/-- too deep -/
theorem below_deep (r : Rdr) (i : Nat) (s : Bool) (F : Value) (w : World) (h : RdAt r i 60 s w) :
  Calls Tryz.prog 75 #[.pointer (some ⟨r.b, 0, none⟩), F] w fun e w' => e = stopAt i ∧ Below w.heap.size w w' := by
 have HB1 := Lib.hid (boxB w (.cells #[.int .i64 0, .string ⟨#[]⟩, .int .i64 0, .slice none 0 0] 37))
 have HR1 := Lib.hid (h.below (boxB w (.cells #[.int .i64 0, .string ⟨#[]⟩, .int .i64 0, .slice none 0 0] 37)))
 have c2 := HR1.out.c.2.2.1
 clear h
 go_enter Tryz.func75, Tryz.ntmps75
 go_wp2_with fail
 refine (fail_any r i 60 s _ HR1.out).mono ?_
 rintro e w3 ⟨rfl, hb⟩
 have HB3 := Lib.hid (HB1.out.trans (hb.mono HB1.out.size))
 clear hb
 unfold stopAt
 go_wp2_with fail
 exact ⟨rfl, rfl, HB3.out⟩
theorem RdAt.level {r : Rdr} {i lv lv' : Nat} {s : Bool} {w : World} (h : RdAt r i lv s w) (hd : lv' ≤ 60) : RdAt r i lv' s (w.setCell ⟨r.b, 2, none⟩ (.int .i64 (lv' : Int))) :=
 h.keep (But.setCell w _ _ rfl) (heap_setCell_same w r.b 2 _ _ _ h.cells) h.lt hd
/-- the world behind a rule one level deeper -/
theorem below_world (r : Rdr) (i j lv : Nat) (s : Bool) (w w2 w3 : World) (q : Raw) (t : Tree) (h : RdAt r i lv s w) (hlt : w.heap.size < w2.heap.size) (hm2 : Mv r w w2) (hn2 : w2.heap[w.heap.size]? = some (.cells (ndC ⟨0, ⟨#[]⟩, 0, none, 0, 0⟩) 37 (0, 0)))
  (ht : IsT (fun b => w2.heap.size ≤ b) w3 q t) (hr3 : RdAt r j (lv + 1) s w3) (hm3 : Mv r w2 w3) :
  (((((((w3.alloc (.cells (ndC q) 37)).setCell ⟨r.b, 2, none⟩ (.int .i64 (lv : Int))).setCell ⟨w.heap.size, 0, none⟩ (.int .i64 q.kind)).setCell ⟨w.heap.size, 1, none⟩ (.string q.text)).setCell ⟨w.heap.size, 2, none⟩ (.int .i64 q.at_)).setCell ⟨w.heap.size, 3, none⟩ (.slice q.p q.n q.cap)).heap[w.heap.size]? = some (.cells (ndC q) 37 (0, 0))) ∧
  IsT (fun b => w.heap.size ≤ b) ((((((w3.alloc (.cells (ndC q) 37)).setCell ⟨r.b, 2, none⟩ (.int .i64 (lv : Int))).setCell ⟨w.heap.size, 0, none⟩ (.int .i64 q.kind)).setCell ⟨w.heap.size, 1, none⟩ (.string q.text)).setCell ⟨w.heap.size, 2, none⟩ (.int .i64 q.at_)).setCell ⟨w.heap.size, 3, none⟩ (.slice q.p q.n q.cap)) q t ∧
  RdAt r j lv s ((((((w3.alloc (.cells (ndC q) 37)).setCell ⟨r.b, 2, none⟩ (.int .i64 (lv : Int))).setCell ⟨w.heap.size, 0, none⟩ (.int .i64 q.kind)).setCell ⟨w.heap.size, 1, none⟩ (.string q.text)).setCell ⟨w.heap.size, 2, none⟩ (.int .i64 q.at_)).setCell ⟨w.heap.size, 3, none⟩ (.slice q.p q.n q.cap)) ∧
  Mv r w ((((((w3.alloc (.cells (ndC q) 37)).setCell ⟨r.b, 2, none⟩ (.int .i64 (lv : Int))).setCell ⟨w.heap.size, 0, none⟩ (.int .i64 q.kind)).setCell ⟨w.heap.size, 1, none⟩ (.string q.text)).setCell ⟨w.heap.size, 2, none⟩ (.int .i64 q.at_)).setCell ⟨w.heap.size, 3, none⟩ (.slice q.p q.n q.cap)) := by
 have hrb : r.b < w.heap.size := lt_heap h.cells
 have hb3 := boxB w3 (.cells (ndC q) 37)
 have hn3 : w3.heap[w.heap.size]? = some (.cells (ndC ⟨0, ⟨#[]⟩, 0, none, 0, 0⟩) 37 (0, 0)) := by rw [hm3.block hlt (by omega)]; exact hn2
 have q1 : (w3.alloc (.cells (ndC q) 37)).heap[w.heap.size]? = some (.cells (ndC ⟨0, ⟨#[]⟩, 0, none, 0, 0⟩) 37 (0, 0)) := by rw [hb3.block _ (lt_heap hn3)]; exact hn3
 have r1 := hr3.below hb3
 have m1 : Mv r w (w3.alloc (.cells (ndC q) 37)) := (hm2.trans hm3).trans (But.alloc _ _)
 have t1 := ht.later hb3
 generalize w3.alloc (.cells (ndC q) 37) = W1 at *
 have q2 : (W1.setCell ⟨r.b, 2, none⟩ (.int .i64 (lv : Int))).heap[w.heap.size]? = some (.cells (ndC ⟨0, ⟨#[]⟩, 0, none, 0, 0⟩) 37 (0, 0)) := (Below.heap_setCell W1 ⟨r.b, 2, none⟩ _ w.heap.size (by show w.heap.size ≠ r.b; omega)).trans q1
 have r2 : RdAt r j lv s (W1.setCell ⟨r.b, 2, none⟩ (.int .i64 (lv : Int))) := r1.level (by have := h.deep; omega)
 have m2 : Mv r w (W1.setCell ⟨r.b, 2, none⟩ (.int .i64 (lv : Int))) := m1.trans (But.setCell W1 ⟨r.b, 2, none⟩ _ rfl)
 have t2 : IsT (fun b => w2.heap.size ≤ b) (W1.setCell ⟨r.b, 2, none⟩ (.int .i64 (lv : Int))) q t := t1.but (M := fun a => a.block = r.b) (But.setCell W1 ⟨r.b, 2, none⟩ _ rfl) (fun a e q => by rw [e] at q; omega)
 generalize W1.setCell ⟨r.b, 2, none⟩ (.int .i64 (lv : Int)) = W2 at *
 have key : ∀ (W : World) (k : Nat) (v : Value), But (fun a => a.block = w.heap.size) W (W.setCell ⟨w.heap.size, k, none⟩ v) := fun W k v => But.setCell W _ v rfl
 have bb := (((key W2 0 (.int .i64 q.kind)).trans (key _ 1 (.string q.text))).trans (key _ 2 (.int .i64 q.at_))).trans (key _ 3 (.slice q.p q.n q.cap))
 have mm : Mv r w ((((W2.setCell ⟨w.heap.size, 0, none⟩ (.int .i64 q.kind)).setCell ⟨w.heap.size, 1, none⟩ (.string q.text)).setCell ⟨w.heap.size, 2, none⟩ (.int .i64 q.at_)).setCell ⟨w.heap.size, 3, none⟩ (.slice q.p q.n q.cap)) :=
  But.setCell_new (But.setCell_new (But.setCell_new (But.setCell_new m2 ⟨w.heap.size, 0, none⟩ _ (Nat.le_refl _)) ⟨w.heap.size, 1, none⟩ _ (Nat.le_refl _)) ⟨w.heap.size, 2, none⟩ _ (Nat.le_refl _)) ⟨w.heap.size, 3, none⟩ _ (Nat.le_refl _)
 refine ⟨heap_setCell_same _ _ _ _ _ _ (heap_setCell_same _ _ _ _ _ _ (heap_setCell_same _ _ _ _ _ _ (heap_setCell_same _ _ _ _ _ _ q2))), (t2.but bb (fun a e q => by rw [e] at q; omega)).mono (fun b hb => by omega), h.keep mm ?_ r2.lt r2.deep, mm⟩
 rw [But.block bb r.b (lt_heap r2.cells) (fun a ha e => by rw [ha] at e; omega)]
 exact r2.cells
set_option maxRecDepth 100000 in
set_option maxHeartbeats 1000000 in
theorem below_ok (r : Rdr) (i lv : Nat) (s : Bool) (F : FuncId) (x : Except Nat (Tree × Nat)) (w : World) (h : RdAt r i lv s w) (hlv : lv < 60) (hF : ∀ args w, (callFunc F args).run Tryz.prog w = .ok (.enter F args) w)
  (HP : ∀ w1, RdAt r i (lv + 1) s w1 → Calls Tryz.prog F #[.pointer (some ⟨r.b, 0, none⟩)] w1 (RulePost r x (lv + 1) s w1)) :
  Calls Tryz.prog 75 #[.pointer (some ⟨r.b, 0, none⟩), .func (.func F) #[] #[]] w (RulePost r x lv s w) := by
 have HM1 := Lib.hid (Mv.of_below (r := r) (boxB w (.cells #[.int .i64 0, .string ⟨#[]⟩, .int .i64 0, .slice none 0 0] 37)))
 have hr1 := h.below (boxB w (.cells #[.int .i64 0, .string ⟨#[]⟩, .int .i64 0, .slice none 0 0] 37))
 have HN1 : Hid ((w.alloc (.cells #[.int .i64 0, .string ⟨#[]⟩, .int .i64 0, .slice none 0 0] 37)).heap[w.heap.size]? = some (.cells (ndC ⟨0, ⟨#[]⟩, 0, none, 0, 0⟩) 37 (0, 0))) := heap_alloc_new w _
 have HRB : Hid (r.b < w.heap.size) := lt_heap h.cells
 have HPP := Lib.hid HP
 have H := Lib.hid h
 obtain ⟨c0, c1, c2, c3, fz⟩ := hr1.c
 have HR1 := Lib.hid hr1
 have hne : ((lv : Int) == 60) = false := by rw [beq_eq_false_iff_ne]; omega
 have hwr : IntKind.i64.wrap ((lv : Int) + 1) = (lv : Int) + 1 := IntWalk.i64_in _ (by omega)
 clear h HP hr1
 go_enter Tryz.func75, Tryz.ntmps75
 go_wp2_with fail
 generalize w.alloc (.cells #[.int .i64 0, .string ⟨#[]⟩, .int .i64 0, .slice none 0 0] 37) = w1 at *
 have e1 : ((lv + 1 : Nat) : Int) = (lv : Int) + 1 := by omega
 have HR2 : Hid (RdAt r i (lv + 1) s (w1.setCell ⟨r.b, 2, none⟩ (.int .i64 ((lv : Int) + 1)))) := by have := HR1.out.level (lv' := lv + 1) (by omega); rw [e1] at this; exact this
 have HM2 : Hid (Mv r w (w1.setCell ⟨r.b, 2, none⟩ (.int .i64 ((lv : Int) + 1)))) := HM1.out.trans (But.setCell w1 ⟨r.b, 2, none⟩ _ rfl)
 have HN2 : Hid ((w1.setCell ⟨r.b, 2, none⟩ (.int .i64 ((lv : Int) + 1))).heap[w.heap.size]? = some (.cells (ndC ⟨0, ⟨#[]⟩, 0, none, 0, 0⟩) 37 (0, 0))) := (Below.heap_setCell w1 ⟨r.b, 2, none⟩ _ w.heap.size (by show w.heap.size ≠ r.b; have := HRB.out; omega)).trans HN1.out
 clear c0 c1 c2 c3 fz HM1 HR1 HN1 hne hwr e1
 generalize w1.setCell ⟨r.b, 2, none⟩ (.int .i64 ((lv : Int) + 1)) = w2 at *
 refine (HPP.out w2 HR2.out).mono ?_
 intro e w3 hp
 match x, hp with
 | .error k, hp =>
  obtain ⟨rfl, hm3⟩ := hp
  have HM3 := Lib.hid (HM2.out.trans hm3)
  unfold stopAt
  go_wp2_with fail
  exact ⟨rfl, rfl, HM3.out⟩
 | .ok (t, j), hp =>
  obtain ⟨q, rfl, ht, hr3, hm3⟩ := hp
  have HW := Lib.hid (below_world r i j lv s w w2 w3 q t H.out (lt_heap HN2.out) HM2.out HN2.out ht hr3 hm3)
  have hlt2 := lt_heap HN2.out
  have hn3 : w3.heap[w.heap.size]? = some (.cells (ndC ⟨0, ⟨#[]⟩, 0, none, 0, 0⟩) 37 (0, 0)) := by rw [hm3.block hlt2 (by have := HRB.out; omega)]; exact HN2.out
  obtain ⟨c0, c1, c2, c3, fz⟩ := hr3.c
  have X2 : ∀ o, (w3.alloc o).cell? ⟨r.b, 2, none⟩ = some (.int .i64 ((lv + 1 : Nat) : Int)) := fun o => by rw [(boxB w3 o).cell (p := ⟨r.b, 2, none⟩) (lt_heap hr3.cells)]; exact c2
  have Z2 : ∀ o, (w3.alloc o).frozen? ⟨r.b, 2, none⟩ = false := fun o => by rw [(boxB w3 o).frozen (p := ⟨r.b, 2, none⟩) (lt_heap hr3.cells)]; exact fz 2
  have hN : ∀ o, (w3.alloc o).heap[w.heap.size]? = some (.cells (ndC ⟨0, ⟨#[]⟩, 0, none, 0, 0⟩) 37 (0, 0)) := fun o => by rw [(boxB w3 o).block _ (lt_heap hn3)]; exact hn3
  have D0 : ∀ o, (w3.alloc o).cell? ⟨w.heap.size, 0, none⟩ = some (.int .i64 0) := fun o => by rw [Lib.cell_of_heap (hN o)]; rfl
  have D1 : ∀ o, (w3.alloc o).cell? ⟨w.heap.size, 1, none⟩ = some (.string ⟨#[]⟩) := fun o => by rw [Lib.cell_of_heap (hN o)]; rfl
  have D2 : ∀ o, (w3.alloc o).cell? ⟨w.heap.size, 2, none⟩ = some (.int .i64 0) := fun o => by rw [Lib.cell_of_heap (hN o)]; rfl
  have D3 : ∀ o, (w3.alloc o).cell? ⟨w.heap.size, 3, none⟩ = some (.slice none 0 0) := fun o => by rw [Lib.cell_of_heap (hN o)]; rfl
  have F0 : ∀ o j, (w3.alloc o).frozen? ⟨w.heap.size, j, none⟩ = false := fun o j => Lib.frozen_of_heap (hN o) j
  have hne1 : ¬ w3.heap.size = r.b := by have := lt_heap hr3.cells; omega
  have hne2 : ¬ r.b = w3.heap.size := by have := lt_heap hr3.cells; omega
  have hne3 : ¬ w.heap.size = r.b := by have := HRB.out; omega
  have hne4 : ¬ r.b = w.heap.size := by have := HRB.out; omega
  have hne5 : ¬ w3.heap.size = w.heap.size := by have := lt_heap hn3; omega
  have hne6 : ¬ w.heap.size = w3.heap.size := by have := lt_heap hn3; omega
  have hwr : IntKind.i64.wrap (((lv + 1 : Nat) : Int) - 1) = (lv : Int) := by rw [IntWalk.i64_in _ (by omega)]; omega
  obtain ⟨qk, qt, qa, qp, qn, qc⟩ := q
  generalize ((lv + 1 : Nat) : Int) = L1 at *
  unfold ndC
  clear ht hr3 hm3 hp c0 c1 c2 c3 fz hN hn3
  go_wp2_with fail
  obtain ⟨hcell, hist, hrd, hmv⟩ := HW.out
  exact bodyPost_ret (results_cellT rfl _ _ _ ⟨w.heap.size, 0, none⟩ _ rfl (load_node _ _ ⟨qk, qt, qa, qp, qn, qc⟩ hcell)) rfl ⟨_, rfl, hist, hrd, hmv⟩
end Go.Proofs.YtheigpiffdabnaaGreat
namespace Go.Proofs.YtheigpiffdabnaaGreat
open Go Go.RowKit
theorem infoTree : (Tryz.prog.info? 37).map (fun i => (i.zero, i.size, i.bytes)) = some (some (.agg #[.int .i64 0, .string ⟨#[]⟩, .int .i64 0, .slice none 0 0]), rawEnc.size, 56) := by kernel_rfl
/-- trees in a list of the reader's own: from the block B on -/
def Nodes (B : Nat) (w : World) (v : Value) (ts : List Tree) : Prop := ∃ R : List Raw, OwnL rawEnc 37 w B v R ∧ R.length = ts.length ∧ ∀ i (h1 : i < R.length) (h2 : i < ts.length), IsT (fun b => B ≤ b ∧ v.ownBlock ≠ some b) w R[i] ts[i]
theorem Nodes.slice {B : Nat} {w : World} {v : Value} {ts : List Tree} (h : Nodes B w v ts) : ∃ p cap, v = .slice p ts.length cap ∧ (p = none → cap = 0) ∧ ∀ b o, p = some ⟨b, o, none⟩ → B ≤ b ∧ v.ownBlock = some b := by
 obtain ⟨R, ⟨_, ⟨hv, hn⟩ | ⟨g, cap, cur, hv, hg, _⟩⟩, hl, _⟩ := h
 ·exact ⟨none, 0, by rw [hv, ← hl, hn], fun _ => rfl, fun _ _ e => by cases e⟩
 ·refine ⟨_, cap, by rw [hv, hl], (fun e => by cases e), fun b o e => ?_⟩
  injection e with e
  injection e with e1 _ _
  subst e1
  exact ⟨hg, by rw [hv]; rfl⟩
theorem Nodes.list {B : Nat} {w : World} {v : Value} {ts : List Tree} (h : Nodes B w v ts) : IsTs (fun b => B ≤ b) w v ts := by
 obtain ⟨p, cap, hv, hp, hb⟩ := h.slice
 obtain ⟨R, ho, hl, ht⟩ := h
 have hs := ho.sl
 subst hv
 exact ⟨p, ts.length, cap, R, rfl, hs, hp, fun b o e _ => (hb b o e).1, hl, fun i a c => (ht i a c).mono (fun b q => q.1)⟩
theorem Nodes.mv {B : Nat} {r : Rdr} {w w' : World} {v : Value} {ts : List Tree} (h : Nodes B w v ts) (hm : Mv r w w') (hr : r.b < B) : Nodes B w' v ts := by
 obtain ⟨R, ⟨h1, h2⟩, hl, ht⟩ := h
 refine ⟨R, ⟨h1, ?_⟩, hl, fun i a c => (ht i a c).but (M := fun a => a.block = r.b) hm (fun a e q => by rw [e] at q; omega)⟩
 rcases h2 with h2 | ⟨g, cap, cur, hv, hg, hh, rest⟩
 ·exact .inl h2
 ·exact .inr ⟨g, cap, cur, hv, hg, by rw [hm.block (lt_heap hh) (by omega)]; exact hh, rest⟩
theorem Nodes.first {B : Nat} {w : World} {q : Raw} {t : Tree} (h : IsT (fun b => B ≤ b) w q t) (hB : B ≤ w.heap.size) : Nodes B (w.alloc (.cells (ndC q) 37)) (.slice (some ⟨w.heap.size, 0, none⟩) 1 1) [t] := by
 refine ⟨[q], ⟨rfl, .inr ⟨w.heap.size, 1, ndC q, rfl, hB, heap_alloc_new w _, Nat.le_refl _, by unfold maxLen; omega, rfl, rfl⟩⟩, rfl, fun i h1 h2 => ?_⟩
 have : i = 0 := by simpa using h1
 subst this
 refine (h.old.later (boxB w _)).mono (fun b hb => ⟨hb.1, fun e => ?_⟩)
 have : w.heap.size = b := by simpa [Value.ownBlock] using e
 omega
theorem Mv.grown {r : Rdr} {ws w w' : World} {row : Option Nat} (h : Mv r ws w) (hg : w.grownBy w' row) (hr : ∀ g, row = some g → ws.heap.size ≤ g) : Mv r ws w' := by
 have key : ∀ k, k < ws.heap.size → w'.heap[k]? = w.heap[k]? := fun k hk => hg.block k (by have := h.size; omega) (fun e => by have := hr k e.symm; omega)
 exact ⟨hg.os.trans h.os, hg.tape.trans h.tape, hg.output.trans h.output, Nat.le_trans h.size hg.size,
  fun x hx hm => (World.cell?_of_block (key _ hx)).trans (h.cell x hx hm), fun x hx => (World.frozen?_of_block (key _ hx)).trans (h.frozen x hx), fun k hk hm => (key k hk).trans (But.block h k hk hm)⟩
theorem RdAt.grown {r : Rdr} {i lv : Nat} {s : Bool} {w w' : World} {row : Option Nat} (h : RdAt r i lv s w) (hg : w.grownBy w' row) (hr : ∀ g, row = some g → r.b < g) : RdAt r i lv s w' := by
 have hb := lt_heap h.cells
 have key : ∀ k, k ≤ r.b → w'.heap[k]? = w.heap[k]? := fun k hk => hg.block k (by omega) (fun e => by have := hr k e.symm; omega)
 refine ⟨by rw [key r.b (Nat.le_refl _)]; exact h.cells, ?_, h.away, h.lt, h.few, h.deep⟩
 obtain ⟨hn, h2, h3, h4⟩ := h.toks.lies
 refine ⟨r.p, r.cap, rfl, h2, h3, fun h0 => ?_⟩
 obtain ⟨b, off, e, hc⟩ := h4 h0
 exact ⟨b, off, e, fun j v hv => by rw [World.cell?_of_block (key b (Nat.le_of_lt (h.away b off e)))]; exact hc j v hv⟩
/-- append of a node -/
theorem wpList_pushN {w : World} {ops : Array Oper} {rest : List Oper} {o : Oper} {act : Act} {Q : Exit → Act → World → Prop} (hgd : o.guard = none) (s x : Operand)
  (ho : o.op = .call { callee := .builtin .append, args := #[s, x], argTypes := #[31, 31] })
  {r : Rdr} {i lv : Nat} {sf : Bool} {ws w0 : World} {v : Value} {ts : List Tree} {q : Raw} {t : Tree} (hN : Nodes ws.heap.size w0 v ts) (ht : IsT (fun b => ws.heap.size ≤ b ∧ v.ownBlock ≠ some b) w0 q t) (hr : RdAt r i lv sf w0) (hm : Mv r ws w0) (hrb : r.b < ws.heap.size) (hl : ts.length ≤ 100000)
  (hw : w0.alloc (.cells (ndC q) 37) = w) (hs : act.eval s = v) (hx : act.eval x = .slice (some ⟨w0.heap.size, 0, none⟩) 1 1)
  (hk : ∀ v' w', Nodes ws.heap.size w' v' (ts ++ [t]) → RdAt r i lv sf w' → Mv r ws w' → wpList Tryz.prog ops Q rest (act.put o.dst v') w') : wpList Tryz.prog ops Q (o :: rest) act w := by
 obtain ⟨i0, hi, hz0, hz1, hz2⟩ := info_parts infoTree
 obtain ⟨R, hown, hRl, hT⟩ := hN
 have hb := boxB w0 (.cells (ndC q) 37)
 have hnew := heap_alloc_new w0 (.cells (ndC q) 37 (0, 0))
 rw [hw] at hb hnew
 have hsz : w.heap.size = w0.heap.size + 1 := by rw [← hw]; simp
 have hown2 : OwnL rawEnc 37 w ws.heap.size v R := by rw [← hw]; exact hown.alloc _
 have hms := hm.size
 have hgrow : ∀ g, v.ownBlock = some g → ws.heap.size ≤ g ∧ g < w0.heap.size := by
  intro g e
  obtain ⟨_, ⟨hv, _⟩ | ⟨g', cap, cur, hv, hg, hh, _⟩⟩ := hown
  ·rw [hv] at e; simp [Value.ownBlock] at e
  ·rw [hv] at e
   simp [Value.ownBlock] at e
   subst e
   exact ⟨hg, lt_heap hh⟩
 have cell : ∀ j u, (rawEnc.cells q)[j]? = some u → w.cell? ⟨w0.heap.size, j, none⟩ = some u := by
  intro j u hu
  rw [Lib.cell_of_heap hnew, ← hu, ← Array.getElem?_toList]
  rfl
 refine wpList_append_own_at w hgd s x 31 ho ws.heap.size 37 i0 _ 4 56 Tryz.underlying31 hi hz0 hz1 hz2 rfl (by decide) v R.length (rawEnc.all R) hs hown2 ⟨w0.heap.size, 0, none⟩ 1 1 (rawEnc.cells q) hx rfl (fun j u hu => by rw [add_lit, Nat.zero_add]; exact cell j u hu) (rawEnc.one q) (by unfold maxLen; omega) (by omega) (by omega) ?_
 intro v' w' g1 g2 _ g4
 have hown' : OwnL rawEnc 37 w' ws.heap.size v' (R ++ [q]) := by
  unfold OwnL
  rw [List.length_append, rawEnc.all_append, rawEnc.all_cons, rawEnc.all_nil, List.append_nil]
  exact g1
 have hbut : Same (fun a => v.ownBlock = some a.block) w w' := fun a u hc hM => by
  rw [World.cell?_of_block (g2.block a.block (World.block_lt_of_cell? w _ hc) (fun e => hM e.symm))]
  exact hc
 have keep : ∀ {qq : Raw} {tt : Tree}, IsT (fun b => ws.heap.size ≤ b ∧ v.ownBlock ≠ some b) w0 qq tt → IsT (fun b => ws.heap.size ≤ b ∧ v'.ownBlock ≠ some b) w' qq tt := by
  intro qq tt h
  have h1 := (h.old.later (by rw [← hw]; exact boxB w0 _ : Below w0.heap.size w0 w)).same hbut (fun a e q => q.1.2 e)
  refine h1.mono (fun b hb => ⟨hb.1.1, fun e => ?_⟩)
  rcases g4 with g4 | g4
  ·rw [g4] at e; exact hb.1.2 e
  ·rw [g4] at e
   have : w.heap.size = b := by simpa using e
   have := hb.2
   omega
 refine hk v' w' ⟨R ++ [q], hown', by simp [hRl], fun j h1 h2 => ?_⟩ ((hr.below hb).grown g2 (fun g e => by have := hgrow g e; omega)) ((hm.trans (by rw [← hw]; exact But.alloc _ _)).grown g2 (fun g e => (hgrow g e).1))
 by_cases hj : j < R.length
 ·rw [List.getElem_append_left hj, List.getElem_append_left (by omega)]
  exact keep (hT j hj (by omega))
 ·have e1 : (R ++ [q])[j] = q := by rw [List.getElem_append_right (by omega)]; simp
  have e2 : (ts ++ [t])[j] = t := by rw [List.getElem_append_right (by omega)]; simp
  rw [e1, e2]
  exact keep ht
end Go.Proofs.YtheigpiffdabnaaGreat
