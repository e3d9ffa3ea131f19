/-
  CONTRACTS: fact.end at operations and at codes.
-/
import Derived.Test.YthikdkeanndidaaDoorCh
import Derived.Laws.ResultCell
namespace Go.Proofs.YthikdkeanndidaaDoor
open Go Go.RowKit
set_option linter.unusedVariables false
set_option linter.unusedSimpArgs false
set_option maxRecDepth 100000

theorem results_cell2 {fn : Func} {t u : Tmp} {ty : TypeId} (h : fn.results = #[.cell t ty, .tmp u]) (tmps : Array Value) (P : Program) (w : World) (a : Addr) (v : Value) (ht : tmps.getD t undef = .pointer (some a)) (hl : (loadVar ty a).run P w = .ok v w) :
    (results fn tmps).run P w = .ok (.tuple #[v, tmps.getD u undef]) w := by
  rw [results_cell_tmp h tmps P w, ht]
  simp [asAddr, hl, Result.andThen]
/-- what the end of a fact gives -/
def EndP (L : List ByteArray) (fl : Bool) (x z : Value) (e : Ending) : Prop := ((fl = false ∧ L = []) ∧ e = .returned (.tuple #[x, .bool true])) ∨ (¬ (fl = false ∧ L = []) ∧ e = .returned (.tuple #[z, .bool false]))

/-- the cells of a box that op is stored into -/
theorem op_store {w : World} {B : Nat} {u0 u1 u2 u3 u4 u5 : Value} (h : w.heap[B]? = some (.cells #[u0, u1, u2, u3, u4, u5] 58 (0, 0))) (ok oa ob oc : Int) (ol : Option Addr) (on oz : Nat) (os : ByteArray) :
    (w.cell? ⟨B, 0, none⟩ = some u0 ∧ (w.setCell ⟨B, 0, none⟩ (.int .i64 ok)).cell? ⟨B, 1, none⟩ = some u1 ∧ ((w.setCell ⟨B, 0, none⟩ (.int .i64 ok)).setCell ⟨B, 1, none⟩ (.int .i64 oa)).cell? ⟨B, 2, none⟩ = some u2 ∧ (((w.setCell ⟨B, 0, none⟩ (.int .i64 ok)).setCell ⟨B, 1, none⟩ (.int .i64 oa)).setCell ⟨B, 2, none⟩ (.int .i64 ob)).cell? ⟨B, 3, none⟩ = some u3 ∧ ((((w.setCell ⟨B, 0, none⟩ (.int .i64 ok)).setCell ⟨B, 1, none⟩ (.int .i64 oa)).setCell ⟨B, 2, none⟩ (.int .i64 ob)).setCell ⟨B, 3, none⟩ (.int .i64 oc)).cell? ⟨B, 4, none⟩ = some u4 ∧ (((((w.setCell ⟨B, 0, none⟩ (.int .i64 ok)).setCell ⟨B, 1, none⟩ (.int .i64 oa)).setCell ⟨B, 2, none⟩ (.int .i64 ob)).setCell ⟨B, 3, none⟩ (.int .i64 oc)).setCell ⟨B, 4, none⟩ (.slice ol on oz)).cell? ⟨B, 5, none⟩ = some u5) ∧ (w.frozen? ⟨B, 0, none⟩ = false ∧ w.frozen? ⟨B, 1, none⟩ = false ∧ w.frozen? ⟨B, 2, none⟩ = false ∧ w.frozen? ⟨B, 3, none⟩ = false ∧ w.frozen? ⟨B, 4, none⟩ = false ∧ w.frozen? ⟨B, 5, none⟩ = false) ∧ ((((((w.setCell ⟨B, 0, none⟩ (.int .i64 ok)).setCell ⟨B, 1, none⟩ (.int .i64 oa)).setCell ⟨B, 2, none⟩ (.int .i64 ob)).setCell ⟨B, 3, none⟩ (.int .i64 oc)).setCell ⟨B, 4, none⟩ (.slice ol on oz)).setCell ⟨B, 5, none⟩ (.string os)).heap[B]? = some (.cells #[.int .i64 ok, .int .i64 oa, .int .i64 ob, .int .i64 oc, .slice ol on oz, .string os] 58 (0, 0)) := by
  have e1 := heap_setCell_s w B 0 _ _ (.int .i64 ok) h
  have e2 := heap_setCell_s (w.setCell ⟨B, 0, none⟩ (.int .i64 ok)) B 1 _ _ (.int .i64 oa) e1
  have e3 := heap_setCell_s ((w.setCell ⟨B, 0, none⟩ (.int .i64 ok)).setCell ⟨B, 1, none⟩ (.int .i64 oa)) B 2 _ _ (.int .i64 ob) e2
  have e4 := heap_setCell_s (((w.setCell ⟨B, 0, none⟩ (.int .i64 ok)).setCell ⟨B, 1, none⟩ (.int .i64 oa)).setCell ⟨B, 2, none⟩ (.int .i64 ob)) B 3 _ _ (.int .i64 oc) e3
  have e5 := heap_setCell_s ((((w.setCell ⟨B, 0, none⟩ (.int .i64 ok)).setCell ⟨B, 1, none⟩ (.int .i64 oa)).setCell ⟨B, 2, none⟩ (.int .i64 ob)).setCell ⟨B, 3, none⟩ (.int .i64 oc)) B 4 _ _ (.slice ol on oz) e4
  have e6 := heap_setCell_s (((((w.setCell ⟨B, 0, none⟩ (.int .i64 ok)).setCell ⟨B, 1, none⟩ (.int .i64 oa)).setCell ⟨B, 2, none⟩ (.int .i64 ob)).setCell ⟨B, 3, none⟩ (.int .i64 oc)).setCell ⟨B, 4, none⟩ (.slice ol on oz)) B 5 _ _ (.string os) e5
  refine ⟨⟨(by rw [Lib.cell_of_heap h]; rfl), (by rw [Lib.cell_of_heap e1]; rfl), (by rw [Lib.cell_of_heap e2]; rfl), (by rw [Lib.cell_of_heap e3]; rfl), (by rw [Lib.cell_of_heap e4]; rfl), (by rw [Lib.cell_of_heap e5]; rfl)⟩, ⟨Lib.frozen_of_heap h 0, Lib.frozen_of_heap h 1, Lib.frozen_of_heap h 2, Lib.frozen_of_heap h 3, Lib.frozen_of_heap h 4, Lib.frozen_of_heap h 5⟩, ?_⟩
  rw [e6]
  rfl
theorem load_op (w : World) (B : Nat) (ok oa ob oc : Int) (ol : Option Addr) (on oz : Nat) (os : ByteArray) (h : w.heap[B]? = some (.cells #[.int .i64 ok, .int .i64 oa, .int .i64 ob, .int .i64 oc, .slice ol on oz, .string os] 58 (0, 0))) :
    (loadVar 58 ⟨B, 0, none⟩).run Tryd.prog w = .ok (.agg #[.int .i64 ok, .int .i64 oa, .int .i64 ob, .int .i64 oc, .slice ol on oz, .string os]) w := by
  have c0 : w.cell? ⟨B, 0, none⟩ = some (.int .i64 ok) := by rw [Lib.cell_of_heap h]; rfl
  have c1 : w.cell? ⟨B, 1, none⟩ = some (.int .i64 oa) := by rw [Lib.cell_of_heap h]; rfl
  have c2 : w.cell? ⟨B, 2, none⟩ = some (.int .i64 ob) := by rw [Lib.cell_of_heap h]; rfl
  have c3 : w.cell? ⟨B, 3, none⟩ = some (.int .i64 oc) := by rw [Lib.cell_of_heap h]; rfl
  have c4 : w.cell? ⟨B, 4, none⟩ = some (.slice ol on oz) := by rw [Lib.cell_of_heap h]; rfl
  have c5 : w.cell? ⟨B, 5, none⟩ = some (.string os) := by rw [Lib.cell_of_heap h]; rfl
  go_simp
theorem op_but {w : World} {B : Nat} (ok oa ob oc : Int) (ol : Option Addr) (on oz : Nat) (os : ByteArray) : But (fun a => a.block = B) w ((((((w.setCell ⟨B, 0, none⟩ (.int .i64 ok)).setCell ⟨B, 1, none⟩ (.int .i64 oa)).setCell ⟨B, 2, none⟩ (.int .i64 ob)).setCell ⟨B, 3, none⟩ (.int .i64 oc)).setCell ⟨B, 4, none⟩ (.slice ol on oz)).setCell ⟨B, 5, none⟩ (.string os)) :=
  ((((((But.setCell (M := fun a => a.block = B) _ _ _ rfl).trans (But.setCell (M := fun a => a.block = B) _ _ _ rfl)).trans (But.setCell (M := fun a => a.block = B) _ _ _ rfl)).trans (But.setCell (M := fun a => a.block = B) _ _ _ rfl)).trans (But.setCell (M := fun a => a.block = B) _ _ _ rfl)).trans (But.setCell (M := fun a => a.block = B) _ _ _ rfl))

/-- the cells of a box that cd is stored into -/
theorem cd_store {w : World} {B : Nat} {u0 u1 u2 : Value} (h : w.heap[B]? = some (.cells #[u0, u1, u2] 24 (0, 0))) (cp cr : Int) (cl : Option Addr) (cn cz : Nat) :
    (w.cell? ⟨B, 0, none⟩ = some u0 ∧ (w.setCell ⟨B, 0, none⟩ (.int .i64 cp)).cell? ⟨B, 1, none⟩ = some u1 ∧ ((w.setCell ⟨B, 0, none⟩ (.int .i64 cp)).setCell ⟨B, 1, none⟩ (.int .i64 cr)).cell? ⟨B, 2, none⟩ = some u2) ∧ (w.frozen? ⟨B, 0, none⟩ = false ∧ w.frozen? ⟨B, 1, none⟩ = false ∧ w.frozen? ⟨B, 2, none⟩ = false) ∧ (((w.setCell ⟨B, 0, none⟩ (.int .i64 cp)).setCell ⟨B, 1, none⟩ (.int .i64 cr)).setCell ⟨B, 2, none⟩ (.slice cl cn cz)).heap[B]? = some (.cells #[.int .i64 cp, .int .i64 cr, .slice cl cn cz] 24 (0, 0)) := by
  have e1 := heap_setCell_s w B 0 _ _ (.int .i64 cp) h
  have e2 := heap_setCell_s (w.setCell ⟨B, 0, none⟩ (.int .i64 cp)) B 1 _ _ (.int .i64 cr) e1
  have e3 := heap_setCell_s ((w.setCell ⟨B, 0, none⟩ (.int .i64 cp)).setCell ⟨B, 1, none⟩ (.int .i64 cr)) B 2 _ _ (.slice cl cn cz) e2
  refine ⟨⟨(by rw [Lib.cell_of_heap h]; rfl), (by rw [Lib.cell_of_heap e1]; rfl), (by rw [Lib.cell_of_heap e2]; rfl)⟩, ⟨Lib.frozen_of_heap h 0, Lib.frozen_of_heap h 1, Lib.frozen_of_heap h 2⟩, ?_⟩
  rw [e3]
  rfl
theorem load_cd (w : World) (B : Nat) (cp cr : Int) (cl : Option Addr) (cn cz : Nat) (h : w.heap[B]? = some (.cells #[.int .i64 cp, .int .i64 cr, .slice cl cn cz] 24 (0, 0))) :
    (loadVar 24 ⟨B, 0, none⟩).run Tryd.prog w = .ok (.agg #[.int .i64 cp, .int .i64 cr, .slice cl cn cz]) w := by
  have c0 : w.cell? ⟨B, 0, none⟩ = some (.int .i64 cp) := by rw [Lib.cell_of_heap h]; rfl
  have c1 : w.cell? ⟨B, 1, none⟩ = some (.int .i64 cr) := by rw [Lib.cell_of_heap h]; rfl
  have c2 : w.cell? ⟨B, 2, none⟩ = some (.slice cl cn cz) := by rw [Lib.cell_of_heap h]; rfl
  go_simp
theorem cd_but {w : World} {B : Nat} (cp cr : Int) (cl : Option Addr) (cn cz : Nat) : But (fun a => a.block = B) w (((w.setCell ⟨B, 0, none⟩ (.int .i64 cp)).setCell ⟨B, 1, none⟩ (.int .i64 cr)).setCell ⟨B, 2, none⟩ (.slice cl cn cz)) :=
  (((But.setCell (M := fun a => a.block = B) _ _ _ rfl).trans (But.setCell (M := fun a => a.block = B) _ _ _ rfl)).trans (But.setCell (M := fun a => a.block = B) _ _ _ rfl))

set_option maxHeartbeats 2000000 in
/-- end, at recompile/api.Op: all has been read -/
theorem end_op (fb : Nat) (A : Nat → Prop) (L : List ByteArray) (fl : Bool) (w : World) (h : FldAt fb A w L fl) (ok oa ob oc : Int) (ol : Option Addr) (on oz : Nat) (os : ByteArray) :
    Calls Tryd.prog 62 #[.pointer (some ⟨fb, 0, none⟩), .agg #[.int .i64 ok, .int .i64 oa, .int .i64 ob, .int .i64 oc, .slice ol on oz, .string os]] w fun e w' => EndP L fl (.agg #[.int .i64 ok, .int .i64 oa, .int .i64 ob, .int .i64 oc, .slice ol on oz, .string os]) (.agg #[.int .i64 0, .int .i64 0, .int .i64 0, .int .i64 0, .slice none 0 0, .string ⟨#[]⟩]) e ∧ Below w.heap.size w w' := by
  by_cases hok : fl = false ∧ L = []
  · obtain ⟨rfl, rfl⟩ := hok
    have hb1 := below_box w (.cells #[.int .i64 ok, .int .i64 oa, .int .i64 ob, .int .i64 oc, .slice ol on oz, .string os] 58)
    have hb2 := below_box (w.alloc (.cells #[.int .i64 ok, .int .i64 oa, .int .i64 ob, .int .i64 oc, .slice ol on oz, .string os] 58)) (.cells #[.int .i64 0, .int .i64 0, .int .i64 0, .int .i64 0, .slice none 0 0, .string ⟨#[]⟩] 58)
    have HF2 := Lib.hid ((h.below hb1).below hb2)
    have hB : Below w.heap.size w ((w.alloc (.cells #[.int .i64 ok, .int .i64 oa, .int .i64 ob, .int .i64 oc, .slice ol on oz, .string os] 58)).alloc (.cells #[.int .i64 0, .int .i64 0, .int .i64 0, .int .i64 0, .slice none 0 0, .string ⟨#[]⟩] 58)) := bnext hb1 hb2
    have hs1 : (w.alloc (.cells #[.int .i64 ok, .int .i64 oa, .int .i64 ob, .int .i64 oc, .slice ol on oz, .string os] 58)).heap.size = w.heap.size + 1 := World.size_alloc _ _
    have hs2 : ((w.alloc (.cells #[.int .i64 ok, .int .i64 oa, .int .i64 ob, .int .i64 oc, .slice ol on oz, .string os] 58)).alloc (.cells #[.int .i64 0, .int .i64 0, .int .i64 0, .int .i64 0, .slice none 0 0, .string ⟨#[]⟩] 58)).heap.size = w.heap.size + 1 + 1 := by rw [World.size_alloc, World.size_alloc]
    have hn1 : (w.alloc (.cells #[.int .i64 ok, .int .i64 oa, .int .i64 ob, .int .i64 oc, .slice ol on oz, .string os] 58)).heap[w.heap.size]? = some (.cells #[.int .i64 ok, .int .i64 oa, .int .i64 ob, .int .i64 oc, .slice ol on oz, .string os] 58 (0, 0)) := heap_alloc_new w _
    have hn1b : ((w.alloc (.cells #[.int .i64 ok, .int .i64 oa, .int .i64 ob, .int .i64 oc, .slice ol on oz, .string os] 58)).alloc (.cells #[.int .i64 0, .int .i64 0, .int .i64 0, .int .i64 0, .slice none 0 0, .string ⟨#[]⟩] 58)).heap[w.heap.size]? = some (.cells #[.int .i64 ok, .int .i64 oa, .int .i64 ob, .int .i64 oc, .slice ol on oz, .string os] 58 (0, 0)) := by rw [hb2.block _ (by rw [hs1]; omega)]; exact hn1
    have hn2 : ((w.alloc (.cells #[.int .i64 ok, .int .i64 oa, .int .i64 ob, .int .i64 oc, .slice ol on oz, .string os] 58)).alloc (.cells #[.int .i64 0, .int .i64 0, .int .i64 0, .int .i64 0, .slice none 0 0, .string ⟨#[]⟩] 58)).heap[w.heap.size + 1]? = some (.cells #[.int .i64 0, .int .i64 0, .int .i64 0, .int .i64 0, .slice none 0 0, .string ⟨#[]⟩] 58 (0, 0)) := by rw [← hs1]; exact heap_alloc_new (w.alloc (.cells #[.int .i64 ok, .int .i64 oa, .int .i64 ob, .int .i64 oc, .slice ol on oz, .string os] 58)) _
    obtain ⟨⟨p, c, z0, hs⟩, z1, -, -⟩ := HF2.out
    obtain ⟨W2v, hW2⟩ : ∃ x, ((w.alloc (.cells #[.int .i64 ok, .int .i64 oa, .int .i64 ob, .int .i64 oc, .slice ol on oz, .string os] 58)).alloc (.cells #[.int .i64 0, .int .i64 0, .int .i64 0, .int .i64 0, .slice none 0 0, .string ⟨#[]⟩] 58)) = x := ⟨_, rfl⟩
    rw [hW2] at hB hn1b hn2 HF2 z0 z1
    have y0 : W2v.cell? ⟨w.heap.size, 0, none⟩ = some (.int .i64 ok) := by rw [Lib.cell_of_heap hn1b]; rfl
    have y1 : W2v.cell? ⟨w.heap.size, 1, none⟩ = some (.int .i64 oa) := by rw [Lib.cell_of_heap hn1b]; rfl
    have y2 : W2v.cell? ⟨w.heap.size, 2, none⟩ = some (.int .i64 ob) := by rw [Lib.cell_of_heap hn1b]; rfl
    have y3 : W2v.cell? ⟨w.heap.size, 3, none⟩ = some (.int .i64 oc) := by rw [Lib.cell_of_heap hn1b]; rfl
    have y4 : W2v.cell? ⟨w.heap.size, 4, none⟩ = some (.slice ol on oz) := by rw [Lib.cell_of_heap hn1b]; rfl
    have y5 : W2v.cell? ⟨w.heap.size, 5, none⟩ = some (.string os) := by rw [Lib.cell_of_heap hn1b]; rfl
    obtain ⟨⟨q0, q1, q2, q3, q4, q5⟩, ⟨g0, g1, g2, g3, g4, g5⟩, hfin⟩ := op_store hn2 ok oa ob oc ol on oz os
    have HL := Lib.hid (load_op _ _ ok oa ob oc ol on oz os hfin)
    have HBF : Hid (Below w.heap.size w ((((((W2v.setCell ⟨w.heap.size + 1, 0, none⟩ (.int .i64 ok)).setCell ⟨w.heap.size + 1, 1, none⟩ (.int .i64 oa)).setCell ⟨w.heap.size + 1, 2, none⟩ (.int .i64 ob)).setCell ⟨w.heap.size + 1, 3, none⟩ (.int .i64 oc)).setCell ⟨w.heap.size + 1, 4, none⟩ (.slice ol on oz)).setCell ⟨w.heap.size + 1, 5, none⟩ (.string os))) := hB.trans (But.below (op_but ok oa ob oc ol on oz os) hB.size (fun a e => by have e' : a.block = w.heap.size + 1 := e; omega))
    have z00 : W2v.cell? ⟨fb, 0, none⟩ = some (.slice p 0 c) := z0
    clear hb1 hb2 hB hs1 hs2 hn1 hn1b hn2 hs hfin h HF2 z0
    go_enter Tryd.func62, Tryd.ntmps62
    go_wp2_with fail
    exact bodyPost_ret (results_cell2 rfl _ _ _ ⟨w.heap.size + 1, 0, none⟩ _ rfl HL.out) rfl ⟨.inl ⟨⟨rfl, rfl⟩, rfl⟩, HBF.out⟩
  · cases fl with
    | true =>
      have hb1 := below_box w (.cells #[.int .i64 ok, .int .i64 oa, .int .i64 ob, .int .i64 oc, .slice ol on oz, .string os] 58)
      have hb2 := below_box (w.alloc (.cells #[.int .i64 ok, .int .i64 oa, .int .i64 ob, .int .i64 oc, .slice ol on oz, .string os] 58)) (.cells #[.int .i64 0, .int .i64 0, .int .i64 0, .int .i64 0, .slice none 0 0, .string ⟨#[]⟩] 58)
      have HF2 := Lib.hid ((h.below hb1).below hb2)
      have hB : Below w.heap.size w ((w.alloc (.cells #[.int .i64 ok, .int .i64 oa, .int .i64 ob, .int .i64 oc, .slice ol on oz, .string os] 58)).alloc (.cells #[.int .i64 0, .int .i64 0, .int .i64 0, .int .i64 0, .slice none 0 0, .string ⟨#[]⟩] 58)) := bnext hb1 hb2
      have hs1 : (w.alloc (.cells #[.int .i64 ok, .int .i64 oa, .int .i64 ob, .int .i64 oc, .slice ol on oz, .string os] 58)).heap.size = w.heap.size + 1 := World.size_alloc _ _
      have hs2 : ((w.alloc (.cells #[.int .i64 ok, .int .i64 oa, .int .i64 ob, .int .i64 oc, .slice ol on oz, .string os] 58)).alloc (.cells #[.int .i64 0, .int .i64 0, .int .i64 0, .int .i64 0, .slice none 0 0, .string ⟨#[]⟩] 58)).heap.size = w.heap.size + 1 + 1 := by rw [World.size_alloc, World.size_alloc]
      have hn1 : (w.alloc (.cells #[.int .i64 ok, .int .i64 oa, .int .i64 ob, .int .i64 oc, .slice ol on oz, .string os] 58)).heap[w.heap.size]? = some (.cells #[.int .i64 ok, .int .i64 oa, .int .i64 ob, .int .i64 oc, .slice ol on oz, .string os] 58 (0, 0)) := heap_alloc_new w _
      have hn1b : ((w.alloc (.cells #[.int .i64 ok, .int .i64 oa, .int .i64 ob, .int .i64 oc, .slice ol on oz, .string os] 58)).alloc (.cells #[.int .i64 0, .int .i64 0, .int .i64 0, .int .i64 0, .slice none 0 0, .string ⟨#[]⟩] 58)).heap[w.heap.size]? = some (.cells #[.int .i64 ok, .int .i64 oa, .int .i64 ob, .int .i64 oc, .slice ol on oz, .string os] 58 (0, 0)) := by rw [hb2.block _ (by rw [hs1]; omega)]; exact hn1
      have hn2 : ((w.alloc (.cells #[.int .i64 ok, .int .i64 oa, .int .i64 ob, .int .i64 oc, .slice ol on oz, .string os] 58)).alloc (.cells #[.int .i64 0, .int .i64 0, .int .i64 0, .int .i64 0, .slice none 0 0, .string ⟨#[]⟩] 58)).heap[w.heap.size + 1]? = some (.cells #[.int .i64 0, .int .i64 0, .int .i64 0, .int .i64 0, .slice none 0 0, .string ⟨#[]⟩] 58 (0, 0)) := by rw [← hs1]; exact heap_alloc_new (w.alloc (.cells #[.int .i64 ok, .int .i64 oa, .int .i64 ob, .int .i64 oc, .slice ol on oz, .string os] 58)) _
      obtain ⟨⟨p, c, z0, hs⟩, z1, -, -⟩ := HF2.out
      clear hs
      obtain ⟨W2v, hW2⟩ : ∃ x, ((w.alloc (.cells #[.int .i64 ok, .int .i64 oa, .int .i64 ob, .int .i64 oc, .slice ol on oz, .string os] 58)).alloc (.cells #[.int .i64 0, .int .i64 0, .int .i64 0, .int .i64 0, .slice none 0 0, .string ⟨#[]⟩] 58)) = x := ⟨_, rfl⟩
      rw [hW2] at hB hn1b hn2 HF2 hs2 z0 z1
      have hb3 := below_box W2v (.cells #[.int .i64 0, .int .i64 0, .int .i64 0, .int .i64 0, .slice none 0 0, .string ⟨#[]⟩] 58)
      have hB3 : Below w.heap.size w (W2v.alloc (.cells #[.int .i64 0, .int .i64 0, .int .i64 0, .int .i64 0, .slice none 0 0, .string ⟨#[]⟩] 58)) := bnext hB hb3
      have hn2b : (W2v.alloc (.cells #[.int .i64 0, .int .i64 0, .int .i64 0, .int .i64 0, .slice none 0 0, .string ⟨#[]⟩] 58)).heap[w.heap.size + 1]? = some (.cells #[.int .i64 0, .int .i64 0, .int .i64 0, .int .i64 0, .slice none 0 0, .string ⟨#[]⟩] 58 (0, 0)) := by rw [hb3.block _ (by rw [hs2]; omega)]; exact hn2
      have hn3 : (W2v.alloc (.cells #[.int .i64 0, .int .i64 0, .int .i64 0, .int .i64 0, .slice none 0 0, .string ⟨#[]⟩] 58)).heap[w.heap.size + 1 + 1]? = some (.cells #[.int .i64 0, .int .i64 0, .int .i64 0, .int .i64 0, .slice none 0 0, .string ⟨#[]⟩] 58 (0, 0)) := by rw [← hs2]; exact heap_alloc_new W2v _
      obtain ⟨W3v, hW3⟩ : ∃ x, W2v.alloc (.cells #[.int .i64 0, .int .i64 0, .int .i64 0, .int .i64 0, .slice none 0 0, .string ⟨#[]⟩] 58) = x := ⟨_, rfl⟩
      rw [hW3] at hB3 hn2b hn3
      have y0 : W3v.cell? ⟨w.heap.size + 1 + 1, 0, none⟩ = some (.int .i64 0) := by rw [Lib.cell_of_heap hn3]; rfl
      have y1 : W3v.cell? ⟨w.heap.size + 1 + 1, 1, none⟩ = some (.int .i64 0) := by rw [Lib.cell_of_heap hn3]; rfl
      have y2 : W3v.cell? ⟨w.heap.size + 1 + 1, 2, none⟩ = some (.int .i64 0) := by rw [Lib.cell_of_heap hn3]; rfl
      have y3 : W3v.cell? ⟨w.heap.size + 1 + 1, 3, none⟩ = some (.int .i64 0) := by rw [Lib.cell_of_heap hn3]; rfl
      have y4 : W3v.cell? ⟨w.heap.size + 1 + 1, 4, none⟩ = some (.slice none 0 0) := by rw [Lib.cell_of_heap hn3]; rfl
      have y5 : W3v.cell? ⟨w.heap.size + 1 + 1, 5, none⟩ = some (.string ⟨#[]⟩) := by rw [Lib.cell_of_heap hn3]; rfl
      obtain ⟨⟨q0, q1, q2, q3, q4, q5⟩, ⟨g0, g1, g2, g3, g4, g5⟩, hfin⟩ := op_store hn2b 0 0 0 0 none 0 0 ⟨#[]⟩
      have HL := Lib.hid (load_op _ _ 0 0 0 0 none 0 0 ⟨#[]⟩ hfin)
      have HBF : Hid (Below w.heap.size w ((((((W3v.setCell ⟨w.heap.size + 1, 0, none⟩ (.int .i64 0)).setCell ⟨w.heap.size + 1, 1, none⟩ (.int .i64 0)).setCell ⟨w.heap.size + 1, 2, none⟩ (.int .i64 0)).setCell ⟨w.heap.size + 1, 3, none⟩ (.int .i64 0)).setCell ⟨w.heap.size + 1, 4, none⟩ (.slice none 0 0)).setCell ⟨w.heap.size + 1, 5, none⟩ (.string ⟨#[]⟩))) := hB3.trans (But.below (op_but 0 0 0 0 none 0 0 ⟨#[]⟩) hB3.size (fun a e => by have e' : a.block = w.heap.size + 1 := e; omega))
      clear hb1 hb2 hB hs1 hn1 hn1b hn2 hfin h HF2 hb3 hB3 hn2b hn3
      clear hok
      go_enter Tryd.func62, Tryd.ntmps62
      go_wp2_with fail
      exact bodyPost_ret (results_cell2 rfl _ _ _ ⟨w.heap.size + 1, 0, none⟩ _ rfl HL.out) rfl ⟨.inr ⟨(fun h => (by cases h.1)), rfl⟩, HBF.out⟩
    | false =>
      have HLN := Lib.hid (show L ≠ [] from fun e => hok ⟨rfl, e⟩)
      have h0 : 0 < L.length := List.length_pos_iff.2 (fun e => hok ⟨rfl, e⟩)
      have h0i : (0 : Int) < (L.length : Int) := by omega
      have hb1 := below_box w (.cells #[.int .i64 ok, .int .i64 oa, .int .i64 ob, .int .i64 oc, .slice ol on oz, .string os] 58)
      have hb2 := below_box (w.alloc (.cells #[.int .i64 ok, .int .i64 oa, .int .i64 ob, .int .i64 oc, .slice ol on oz, .string os] 58)) (.cells #[.int .i64 0, .int .i64 0, .int .i64 0, .int .i64 0, .slice none 0 0, .string ⟨#[]⟩] 58)
      have HF2 := Lib.hid ((h.below hb1).below hb2)
      have hB : Below w.heap.size w ((w.alloc (.cells #[.int .i64 ok, .int .i64 oa, .int .i64 ob, .int .i64 oc, .slice ol on oz, .string os] 58)).alloc (.cells #[.int .i64 0, .int .i64 0, .int .i64 0, .int .i64 0, .slice none 0 0, .string ⟨#[]⟩] 58)) := bnext hb1 hb2
      have hs1 : (w.alloc (.cells #[.int .i64 ok, .int .i64 oa, .int .i64 ob, .int .i64 oc, .slice ol on oz, .string os] 58)).heap.size = w.heap.size + 1 := World.size_alloc _ _
      have hs2 : ((w.alloc (.cells #[.int .i64 ok, .int .i64 oa, .int .i64 ob, .int .i64 oc, .slice ol on oz, .string os] 58)).alloc (.cells #[.int .i64 0, .int .i64 0, .int .i64 0, .int .i64 0, .slice none 0 0, .string ⟨#[]⟩] 58)).heap.size = w.heap.size + 1 + 1 := by rw [World.size_alloc, World.size_alloc]
      have hn1 : (w.alloc (.cells #[.int .i64 ok, .int .i64 oa, .int .i64 ob, .int .i64 oc, .slice ol on oz, .string os] 58)).heap[w.heap.size]? = some (.cells #[.int .i64 ok, .int .i64 oa, .int .i64 ob, .int .i64 oc, .slice ol on oz, .string os] 58 (0, 0)) := heap_alloc_new w _
      have hn1b : ((w.alloc (.cells #[.int .i64 ok, .int .i64 oa, .int .i64 ob, .int .i64 oc, .slice ol on oz, .string os] 58)).alloc (.cells #[.int .i64 0, .int .i64 0, .int .i64 0, .int .i64 0, .slice none 0 0, .string ⟨#[]⟩] 58)).heap[w.heap.size]? = some (.cells #[.int .i64 ok, .int .i64 oa, .int .i64 ob, .int .i64 oc, .slice ol on oz, .string os] 58 (0, 0)) := by rw [hb2.block _ (by rw [hs1]; omega)]; exact hn1
      have hn2 : ((w.alloc (.cells #[.int .i64 ok, .int .i64 oa, .int .i64 ob, .int .i64 oc, .slice ol on oz, .string os] 58)).alloc (.cells #[.int .i64 0, .int .i64 0, .int .i64 0, .int .i64 0, .slice none 0 0, .string ⟨#[]⟩] 58)).heap[w.heap.size + 1]? = some (.cells #[.int .i64 0, .int .i64 0, .int .i64 0, .int .i64 0, .slice none 0 0, .string ⟨#[]⟩] 58 (0, 0)) := by rw [← hs1]; exact heap_alloc_new (w.alloc (.cells #[.int .i64 ok, .int .i64 oa, .int .i64 ob, .int .i64 oc, .slice ol on oz, .string os] 58)) _
      obtain ⟨⟨p, c, z0, hs⟩, z1, -, -⟩ := HF2.out
      clear hs
      obtain ⟨W2v, hW2⟩ : ∃ x, ((w.alloc (.cells #[.int .i64 ok, .int .i64 oa, .int .i64 ob, .int .i64 oc, .slice ol on oz, .string os] 58)).alloc (.cells #[.int .i64 0, .int .i64 0, .int .i64 0, .int .i64 0, .slice none 0 0, .string ⟨#[]⟩] 58)) = x := ⟨_, rfl⟩
      rw [hW2] at hB hn1b hn2 HF2 hs2 z0 z1
      have hb3 := below_box W2v (.cells #[.int .i64 0, .int .i64 0, .int .i64 0, .int .i64 0, .slice none 0 0, .string ⟨#[]⟩] 58)
      have hB3 : Below w.heap.size w (W2v.alloc (.cells #[.int .i64 0, .int .i64 0, .int .i64 0, .int .i64 0, .slice none 0 0, .string ⟨#[]⟩] 58)) := bnext hB hb3
      have hn2b : (W2v.alloc (.cells #[.int .i64 0, .int .i64 0, .int .i64 0, .int .i64 0, .slice none 0 0, .string ⟨#[]⟩] 58)).heap[w.heap.size + 1]? = some (.cells #[.int .i64 0, .int .i64 0, .int .i64 0, .int .i64 0, .slice none 0 0, .string ⟨#[]⟩] 58 (0, 0)) := by rw [hb3.block _ (by rw [hs2]; omega)]; exact hn2
      have hn3 : (W2v.alloc (.cells #[.int .i64 0, .int .i64 0, .int .i64 0, .int .i64 0, .slice none 0 0, .string ⟨#[]⟩] 58)).heap[w.heap.size + 1 + 1]? = some (.cells #[.int .i64 0, .int .i64 0, .int .i64 0, .int .i64 0, .slice none 0 0, .string ⟨#[]⟩] 58 (0, 0)) := by rw [← hs2]; exact heap_alloc_new W2v _
      obtain ⟨W3v, hW3⟩ : ∃ x, W2v.alloc (.cells #[.int .i64 0, .int .i64 0, .int .i64 0, .int .i64 0, .slice none 0 0, .string ⟨#[]⟩] 58) = x := ⟨_, rfl⟩
      rw [hW3] at hB3 hn2b hn3
      have y0 : W3v.cell? ⟨w.heap.size + 1 + 1, 0, none⟩ = some (.int .i64 0) := by rw [Lib.cell_of_heap hn3]; rfl
      have y1 : W3v.cell? ⟨w.heap.size + 1 + 1, 1, none⟩ = some (.int .i64 0) := by rw [Lib.cell_of_heap hn3]; rfl
      have y2 : W3v.cell? ⟨w.heap.size + 1 + 1, 2, none⟩ = some (.int .i64 0) := by rw [Lib.cell_of_heap hn3]; rfl
      have y3 : W3v.cell? ⟨w.heap.size + 1 + 1, 3, none⟩ = some (.int .i64 0) := by rw [Lib.cell_of_heap hn3]; rfl
      have y4 : W3v.cell? ⟨w.heap.size + 1 + 1, 4, none⟩ = some (.slice none 0 0) := by rw [Lib.cell_of_heap hn3]; rfl
      have y5 : W3v.cell? ⟨w.heap.size + 1 + 1, 5, none⟩ = some (.string ⟨#[]⟩) := by rw [Lib.cell_of_heap hn3]; rfl
      obtain ⟨⟨q0, q1, q2, q3, q4, q5⟩, ⟨g0, g1, g2, g3, g4, g5⟩, hfin⟩ := op_store hn2b 0 0 0 0 none 0 0 ⟨#[]⟩
      have HL := Lib.hid (load_op _ _ 0 0 0 0 none 0 0 ⟨#[]⟩ hfin)
      have HBF : Hid (Below w.heap.size w ((((((W3v.setCell ⟨w.heap.size + 1, 0, none⟩ (.int .i64 0)).setCell ⟨w.heap.size + 1, 1, none⟩ (.int .i64 0)).setCell ⟨w.heap.size + 1, 2, none⟩ (.int .i64 0)).setCell ⟨w.heap.size + 1, 3, none⟩ (.int .i64 0)).setCell ⟨w.heap.size + 1, 4, none⟩ (.slice none 0 0)).setCell ⟨w.heap.size + 1, 5, none⟩ (.string ⟨#[]⟩))) := hB3.trans (But.below (op_but 0 0 0 0 none 0 0 ⟨#[]⟩) hB3.size (fun a e => by have e' : a.block = w.heap.size + 1 := e; omega))
      clear hb1 hb2 hB hs1 hn1 hn1b hn2 hfin h HF2 hb3 hB3 hn2b hn3
      clear hok
      go_enter Tryd.func62, Tryd.ntmps62
      go_wp2_with fail
      exact bodyPost_ret (results_cell2 rfl _ _ _ ⟨w.heap.size + 1, 0, none⟩ _ rfl HL.out) rfl ⟨.inr ⟨(fun h => HLN.out h.2), rfl⟩, HBF.out⟩

set_option maxHeartbeats 2000000 in
/-- end, at recompile/api.Code: all has been read -/
theorem end_cd (fb : Nat) (A : Nat → Prop) (L : List ByteArray) (fl : Bool) (w : World) (h : FldAt fb A w L fl) (cp cr : Int) (cl : Option Addr) (cn cz : Nat) :
    Calls Tryd.prog 29 #[.pointer (some ⟨fb, 0, none⟩), .agg #[.int .i64 cp, .int .i64 cr, .slice cl cn cz]] w fun e w' => EndP L fl (.agg #[.int .i64 cp, .int .i64 cr, .slice cl cn cz]) (.agg #[.int .i64 0, .int .i64 0, .slice none 0 0]) e ∧ Below w.heap.size w w' := by
  by_cases hok : fl = false ∧ L = []
  · obtain ⟨rfl, rfl⟩ := hok
    have hb1 := below_box w (.cells #[.int .i64 cp, .int .i64 cr, .slice cl cn cz] 24)
    have hb2 := below_box (w.alloc (.cells #[.int .i64 cp, .int .i64 cr, .slice cl cn cz] 24)) (.cells #[.int .i64 0, .int .i64 0, .slice none 0 0] 24)
    have HF2 := Lib.hid ((h.below hb1).below hb2)
    have hB : Below w.heap.size w ((w.alloc (.cells #[.int .i64 cp, .int .i64 cr, .slice cl cn cz] 24)).alloc (.cells #[.int .i64 0, .int .i64 0, .slice none 0 0] 24)) := bnext hb1 hb2
    have hs1 : (w.alloc (.cells #[.int .i64 cp, .int .i64 cr, .slice cl cn cz] 24)).heap.size = w.heap.size + 1 := World.size_alloc _ _
    have hs2 : ((w.alloc (.cells #[.int .i64 cp, .int .i64 cr, .slice cl cn cz] 24)).alloc (.cells #[.int .i64 0, .int .i64 0, .slice none 0 0] 24)).heap.size = w.heap.size + 1 + 1 := by rw [World.size_alloc, World.size_alloc]
    have hn1 : (w.alloc (.cells #[.int .i64 cp, .int .i64 cr, .slice cl cn cz] 24)).heap[w.heap.size]? = some (.cells #[.int .i64 cp, .int .i64 cr, .slice cl cn cz] 24 (0, 0)) := heap_alloc_new w _
    have hn1b : ((w.alloc (.cells #[.int .i64 cp, .int .i64 cr, .slice cl cn cz] 24)).alloc (.cells #[.int .i64 0, .int .i64 0, .slice none 0 0] 24)).heap[w.heap.size]? = some (.cells #[.int .i64 cp, .int .i64 cr, .slice cl cn cz] 24 (0, 0)) := by rw [hb2.block _ (by rw [hs1]; omega)]; exact hn1
    have hn2 : ((w.alloc (.cells #[.int .i64 cp, .int .i64 cr, .slice cl cn cz] 24)).alloc (.cells #[.int .i64 0, .int .i64 0, .slice none 0 0] 24)).heap[w.heap.size + 1]? = some (.cells #[.int .i64 0, .int .i64 0, .slice none 0 0] 24 (0, 0)) := by rw [← hs1]; exact heap_alloc_new (w.alloc (.cells #[.int .i64 cp, .int .i64 cr, .slice cl cn cz] 24)) _
    obtain ⟨⟨p, c, z0, hs⟩, z1, -, -⟩ := HF2.out
    obtain ⟨W2v, hW2⟩ : ∃ x, ((w.alloc (.cells #[.int .i64 cp, .int .i64 cr, .slice cl cn cz] 24)).alloc (.cells #[.int .i64 0, .int .i64 0, .slice none 0 0] 24)) = x := ⟨_, rfl⟩
    rw [hW2] at hB hn1b hn2 HF2 z0 z1
    have y0 : W2v.cell? ⟨w.heap.size, 0, none⟩ = some (.int .i64 cp) := by rw [Lib.cell_of_heap hn1b]; rfl
    have y1 : W2v.cell? ⟨w.heap.size, 1, none⟩ = some (.int .i64 cr) := by rw [Lib.cell_of_heap hn1b]; rfl
    have y2 : W2v.cell? ⟨w.heap.size, 2, none⟩ = some (.slice cl cn cz) := by rw [Lib.cell_of_heap hn1b]; rfl
    obtain ⟨⟨q0, q1, q2⟩, ⟨g0, g1, g2⟩, hfin⟩ := cd_store hn2 cp cr cl cn cz
    have HL := Lib.hid (load_cd _ _ cp cr cl cn cz hfin)
    have HBF : Hid (Below w.heap.size w (((W2v.setCell ⟨w.heap.size + 1, 0, none⟩ (.int .i64 cp)).setCell ⟨w.heap.size + 1, 1, none⟩ (.int .i64 cr)).setCell ⟨w.heap.size + 1, 2, none⟩ (.slice cl cn cz))) := hB.trans (But.below (cd_but cp cr cl cn cz) hB.size (fun a e => by have e' : a.block = w.heap.size + 1 := e; omega))
    have z00 : W2v.cell? ⟨fb, 0, none⟩ = some (.slice p 0 c) := z0
    clear hb1 hb2 hB hs1 hs2 hn1 hn1b hn2 hs hfin h HF2 z0
    go_enter Tryd.func29, Tryd.ntmps29
    go_wp2_with fail
    exact bodyPost_ret (results_cell2 rfl _ _ _ ⟨w.heap.size + 1, 0, none⟩ _ rfl HL.out) rfl ⟨.inl ⟨⟨rfl, rfl⟩, rfl⟩, HBF.out⟩
  · cases fl with
    | true =>
      have hb1 := below_box w (.cells #[.int .i64 cp, .int .i64 cr, .slice cl cn cz] 24)
      have hb2 := below_box (w.alloc (.cells #[.int .i64 cp, .int .i64 cr, .slice cl cn cz] 24)) (.cells #[.int .i64 0, .int .i64 0, .slice none 0 0] 24)
      have HF2 := Lib.hid ((h.below hb1).below hb2)
      have hB : Below w.heap.size w ((w.alloc (.cells #[.int .i64 cp, .int .i64 cr, .slice cl cn cz] 24)).alloc (.cells #[.int .i64 0, .int .i64 0, .slice none 0 0] 24)) := bnext hb1 hb2
      have hs1 : (w.alloc (.cells #[.int .i64 cp, .int .i64 cr, .slice cl cn cz] 24)).heap.size = w.heap.size + 1 := World.size_alloc _ _
      have hs2 : ((w.alloc (.cells #[.int .i64 cp, .int .i64 cr, .slice cl cn cz] 24)).alloc (.cells #[.int .i64 0, .int .i64 0, .slice none 0 0] 24)).heap.size = w.heap.size + 1 + 1 := by rw [World.size_alloc, World.size_alloc]
      have hn1 : (w.alloc (.cells #[.int .i64 cp, .int .i64 cr, .slice cl cn cz] 24)).heap[w.heap.size]? = some (.cells #[.int .i64 cp, .int .i64 cr, .slice cl cn cz] 24 (0, 0)) := heap_alloc_new w _
      have hn1b : ((w.alloc (.cells #[.int .i64 cp, .int .i64 cr, .slice cl cn cz] 24)).alloc (.cells #[.int .i64 0, .int .i64 0, .slice none 0 0] 24)).heap[w.heap.size]? = some (.cells #[.int .i64 cp, .int .i64 cr, .slice cl cn cz] 24 (0, 0)) := by rw [hb2.block _ (by rw [hs1]; omega)]; exact hn1
      have hn2 : ((w.alloc (.cells #[.int .i64 cp, .int .i64 cr, .slice cl cn cz] 24)).alloc (.cells #[.int .i64 0, .int .i64 0, .slice none 0 0] 24)).heap[w.heap.size + 1]? = some (.cells #[.int .i64 0, .int .i64 0, .slice none 0 0] 24 (0, 0)) := by rw [← hs1]; exact heap_alloc_new (w.alloc (.cells #[.int .i64 cp, .int .i64 cr, .slice cl cn cz] 24)) _
      obtain ⟨⟨p, c, z0, hs⟩, z1, -, -⟩ := HF2.out
      clear hs
      obtain ⟨W2v, hW2⟩ : ∃ x, ((w.alloc (.cells #[.int .i64 cp, .int .i64 cr, .slice cl cn cz] 24)).alloc (.cells #[.int .i64 0, .int .i64 0, .slice none 0 0] 24)) = x := ⟨_, rfl⟩
      rw [hW2] at hB hn1b hn2 HF2 hs2 z0 z1
      have hb3 := below_box W2v (.cells #[.int .i64 0, .int .i64 0, .slice none 0 0] 24)
      have hB3 : Below w.heap.size w (W2v.alloc (.cells #[.int .i64 0, .int .i64 0, .slice none 0 0] 24)) := bnext hB hb3
      have hn2b : (W2v.alloc (.cells #[.int .i64 0, .int .i64 0, .slice none 0 0] 24)).heap[w.heap.size + 1]? = some (.cells #[.int .i64 0, .int .i64 0, .slice none 0 0] 24 (0, 0)) := by rw [hb3.block _ (by rw [hs2]; omega)]; exact hn2
      have hn3 : (W2v.alloc (.cells #[.int .i64 0, .int .i64 0, .slice none 0 0] 24)).heap[w.heap.size + 1 + 1]? = some (.cells #[.int .i64 0, .int .i64 0, .slice none 0 0] 24 (0, 0)) := by rw [← hs2]; exact heap_alloc_new W2v _
      obtain ⟨W3v, hW3⟩ : ∃ x, W2v.alloc (.cells #[.int .i64 0, .int .i64 0, .slice none 0 0] 24) = x := ⟨_, rfl⟩
      rw [hW3] at hB3 hn2b hn3
      have y0 : W3v.cell? ⟨w.heap.size + 1 + 1, 0, none⟩ = some (.int .i64 0) := by rw [Lib.cell_of_heap hn3]; rfl
      have y1 : W3v.cell? ⟨w.heap.size + 1 + 1, 1, none⟩ = some (.int .i64 0) := by rw [Lib.cell_of_heap hn3]; rfl
      have y2 : W3v.cell? ⟨w.heap.size + 1 + 1, 2, none⟩ = some (.slice none 0 0) := by rw [Lib.cell_of_heap hn3]; rfl
      obtain ⟨⟨q0, q1, q2⟩, ⟨g0, g1, g2⟩, hfin⟩ := cd_store hn2b 0 0 none 0 0
      have HL := Lib.hid (load_cd _ _ 0 0 none 0 0 hfin)
      have HBF : Hid (Below w.heap.size w (((W3v.setCell ⟨w.heap.size + 1, 0, none⟩ (.int .i64 0)).setCell ⟨w.heap.size + 1, 1, none⟩ (.int .i64 0)).setCell ⟨w.heap.size + 1, 2, none⟩ (.slice none 0 0))) := hB3.trans (But.below (cd_but 0 0 none 0 0) hB3.size (fun a e => by have e' : a.block = w.heap.size + 1 := e; omega))
      clear hb1 hb2 hB hs1 hn1 hn1b hn2 hfin h HF2 hb3 hB3 hn2b hn3
      clear hok
      go_enter Tryd.func29, Tryd.ntmps29
      go_wp2_with fail
      exact bodyPost_ret (results_cell2 rfl _ _ _ ⟨w.heap.size + 1, 0, none⟩ _ rfl HL.out) rfl ⟨.inr ⟨(fun h => (by cases h.1)), rfl⟩, HBF.out⟩
    | false =>
      have HLN := Lib.hid (show L ≠ [] from fun e => hok ⟨rfl, e⟩)
      have h0 : 0 < L.length := List.length_pos_iff.2 (fun e => hok ⟨rfl, e⟩)
      have h0i : (0 : Int) < (L.length : Int) := by omega
      have hb1 := below_box w (.cells #[.int .i64 cp, .int .i64 cr, .slice cl cn cz] 24)
      have hb2 := below_box (w.alloc (.cells #[.int .i64 cp, .int .i64 cr, .slice cl cn cz] 24)) (.cells #[.int .i64 0, .int .i64 0, .slice none 0 0] 24)
      have HF2 := Lib.hid ((h.below hb1).below hb2)
      have hB : Below w.heap.size w ((w.alloc (.cells #[.int .i64 cp, .int .i64 cr, .slice cl cn cz] 24)).alloc (.cells #[.int .i64 0, .int .i64 0, .slice none 0 0] 24)) := bnext hb1 hb2
      have hs1 : (w.alloc (.cells #[.int .i64 cp, .int .i64 cr, .slice cl cn cz] 24)).heap.size = w.heap.size + 1 := World.size_alloc _ _
      have hs2 : ((w.alloc (.cells #[.int .i64 cp, .int .i64 cr, .slice cl cn cz] 24)).alloc (.cells #[.int .i64 0, .int .i64 0, .slice none 0 0] 24)).heap.size = w.heap.size + 1 + 1 := by rw [World.size_alloc, World.size_alloc]
      have hn1 : (w.alloc (.cells #[.int .i64 cp, .int .i64 cr, .slice cl cn cz] 24)).heap[w.heap.size]? = some (.cells #[.int .i64 cp, .int .i64 cr, .slice cl cn cz] 24 (0, 0)) := heap_alloc_new w _
      have hn1b : ((w.alloc (.cells #[.int .i64 cp, .int .i64 cr, .slice cl cn cz] 24)).alloc (.cells #[.int .i64 0, .int .i64 0, .slice none 0 0] 24)).heap[w.heap.size]? = some (.cells #[.int .i64 cp, .int .i64 cr, .slice cl cn cz] 24 (0, 0)) := by rw [hb2.block _ (by rw [hs1]; omega)]; exact hn1
      have hn2 : ((w.alloc (.cells #[.int .i64 cp, .int .i64 cr, .slice cl cn cz] 24)).alloc (.cells #[.int .i64 0, .int .i64 0, .slice none 0 0] 24)).heap[w.heap.size + 1]? = some (.cells #[.int .i64 0, .int .i64 0, .slice none 0 0] 24 (0, 0)) := by rw [← hs1]; exact heap_alloc_new (w.alloc (.cells #[.int .i64 cp, .int .i64 cr, .slice cl cn cz] 24)) _
      obtain ⟨⟨p, c, z0, hs⟩, z1, -, -⟩ := HF2.out
      clear hs
      obtain ⟨W2v, hW2⟩ : ∃ x, ((w.alloc (.cells #[.int .i64 cp, .int .i64 cr, .slice cl cn cz] 24)).alloc (.cells #[.int .i64 0, .int .i64 0, .slice none 0 0] 24)) = x := ⟨_, rfl⟩
      rw [hW2] at hB hn1b hn2 HF2 hs2 z0 z1
      have hb3 := below_box W2v (.cells #[.int .i64 0, .int .i64 0, .slice none 0 0] 24)
      have hB3 : Below w.heap.size w (W2v.alloc (.cells #[.int .i64 0, .int .i64 0, .slice none 0 0] 24)) := bnext hB hb3
      have hn2b : (W2v.alloc (.cells #[.int .i64 0, .int .i64 0, .slice none 0 0] 24)).heap[w.heap.size + 1]? = some (.cells #[.int .i64 0, .int .i64 0, .slice none 0 0] 24 (0, 0)) := by rw [hb3.block _ (by rw [hs2]; omega)]; exact hn2
      have hn3 : (W2v.alloc (.cells #[.int .i64 0, .int .i64 0, .slice none 0 0] 24)).heap[w.heap.size + 1 + 1]? = some (.cells #[.int .i64 0, .int .i64 0, .slice none 0 0] 24 (0, 0)) := by rw [← hs2]; exact heap_alloc_new W2v _
      obtain ⟨W3v, hW3⟩ : ∃ x, W2v.alloc (.cells #[.int .i64 0, .int .i64 0, .slice none 0 0] 24) = x := ⟨_, rfl⟩
      rw [hW3] at hB3 hn2b hn3
      have y0 : W3v.cell? ⟨w.heap.size + 1 + 1, 0, none⟩ = some (.int .i64 0) := by rw [Lib.cell_of_heap hn3]; rfl
      have y1 : W3v.cell? ⟨w.heap.size + 1 + 1, 1, none⟩ = some (.int .i64 0) := by rw [Lib.cell_of_heap hn3]; rfl
      have y2 : W3v.cell? ⟨w.heap.size + 1 + 1, 2, none⟩ = some (.slice none 0 0) := by rw [Lib.cell_of_heap hn3]; rfl
      obtain ⟨⟨q0, q1, q2⟩, ⟨g0, g1, g2⟩, hfin⟩ := cd_store hn2b 0 0 none 0 0
      have HL := Lib.hid (load_cd _ _ 0 0 none 0 0 hfin)
      have HBF : Hid (Below w.heap.size w (((W3v.setCell ⟨w.heap.size + 1, 0, none⟩ (.int .i64 0)).setCell ⟨w.heap.size + 1, 1, none⟩ (.int .i64 0)).setCell ⟨w.heap.size + 1, 2, none⟩ (.slice none 0 0))) := hB3.trans (But.below (cd_but 0 0 none 0 0) hB3.size (fun a e => by have e' : a.block = w.heap.size + 1 := e; omega))
      clear hb1 hb2 hB hs1 hn1 hn1b hn2 hfin h HF2 hb3 hB3 hn2b hn3
      clear hok
      go_enter Tryd.func29, Tryd.ntmps29
      go_wp2_with fail
      exact bodyPost_ret (results_cell2 rfl _ _ _ ⟨w.heap.size + 1, 0, none⟩ _ rfl HL.out) rfl ⟨.inr ⟨(fun h => HLN.out h.2), rfl⟩, HBF.out⟩
end Go.Proofs.YthikdkeanndidaaDoor
