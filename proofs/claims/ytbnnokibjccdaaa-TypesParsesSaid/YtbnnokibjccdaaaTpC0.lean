/-
  LAWS: a box that holds a type.
-/
import Derived.Test.YtbnnokibjccdaaaTpE0
import Derived.Deep.RegionWith
namespace Go.Proofs.Ytbnnokibjccdaaa
open Go Go.RowKit
set_option linter.unusedVariables false
set_option linter.unusedSimpArgs false

theorem results_cellP {fn : Func} {t : Tmp} {ty : TypeId} (h : fn.results = #[.cell t ty]) (tmps : Array Value) (P : Program) (w : World) (a : Addr) (v : Value) (ht : tmps.getD t undef = .pointer (some a)) (hl : (loadVar ty a).run P w = .ok v w) :
    (results fn tmps).run P w = .ok v w := by
  have ht' : tmps[t]?.getD undef = .pointer (some a) := by simpa using ht
  simp [results, h, ht', asAddr, hl]
theorem load_tp (W : World) (b : Nat) (s : ByteArray) (p : Option Addr) (n c : Nat) (h : W.heap[b]? = some (.cells #[.string s, .slice p n c] 24 (0, 0))) :
    (loadVar 24 ⟨b, 0, none⟩).run Try.prog W = .ok (.agg #[.string s, .slice p n c]) W := by
  have c0 : W.cell? ⟨b, 0, none⟩ = some (.string s) := by rw [Lib.cell_of_heap h]; rfl
  have c1 : W.cell? ⟨b, 1, none⟩ = some (.slice p n c) := by rw [Lib.cell_of_heap h]; rfl
  go_simp
/-- the cells of a result that is stored into its box -/
theorem box_store {w : World} {B : Nat} {u0 u1 : Value} (h : w.heap[B]? = some (.cells #[u0, u1] 24 (0, 0))) (s : ByteArray) (p : Option Addr) (n c : Nat) :
    ((w.setCell ⟨B, 0, none⟩ (.string s)).setCell ⟨B, 1, none⟩ (.slice p n c)).heap[B]? = some (.cells #[.string s, .slice p n c] 24 (0, 0)) := by
  have e1 := heap_setCell_same w B 0 _ _ (.string s) h
  have e2 := heap_setCell_same _ B 1 _ _ (.slice p n c) e1
  rw [e2]
  rfl

theorem box_facts {w : World} {B : Nat} {u0 u1 : Value} (h : w.heap[B]? = some (.cells #[u0, u1] 24 (0, 0))) (s : ByteArray) (p : Option Addr) (n c : Nat) :
    w.cell? ⟨B, 0, none⟩ = some u0 ∧ (w.setCell ⟨B, 0, none⟩ (.string s)).cell? ⟨B, 1, none⟩ = some u1 ∧ w.frozen? ⟨B, 0, none⟩ = false ∧ w.frozen? ⟨B, 1, none⟩ = false ∧
    ((w.setCell ⟨B, 0, none⟩ (.string s)).setCell ⟨B, 1, none⟩ (.slice p n c)).cell? ⟨B, 0, none⟩ = some (.string s) ∧ ((w.setCell ⟨B, 0, none⟩ (.string s)).setCell ⟨B, 1, none⟩ (.slice p n c)).cell? ⟨B, 1, none⟩ = some (.slice p n c) := by
  refine ⟨by rw [Lib.cell_of_heap h]; rfl, ?_, Lib.frozen_of_heap h 0, Lib.frozen_of_heap h 1, by rw [Lib.cell_of_heap (box_store h s p n c)]; rfl, by rw [Lib.cell_of_heap (box_store h s p n c)]; rfl⟩
  rw [Lib.cell_of_heap (heap_setCell_same w B 0 _ _ (.string s) h)]
  rfl

end Go.Proofs.Ytbnnokibjccdaaa
