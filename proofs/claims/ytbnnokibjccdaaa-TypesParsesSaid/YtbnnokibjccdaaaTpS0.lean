/-
  LAWS: a type as a value; what says whether two types are the same.
-/
import Derived.Test.YtbnnokibjccdaaaTp
import Derived.Test.YtbnnokibjccdaaaLw
namespace Go.Proofs.Ytbnnokibjccdaaa
open Go Go.RowKit
set_option linter.unusedVariables false
set_option linter.unusedSimpArgs false

/-- a type as a value -/
def tpV (q : Rw) : Value := .agg #[.string q.name, .slice q.p q.n q.cap]
theorem box_p (w : World) (q : Rw) (t : TypeId) : PAt (w.alloc (.cells #[.string q.name, .slice q.p q.n q.cap] t)) w.heap.size 0 q :=
  ⟨by rw [Lib.cell_of_heap (heap_alloc_new w _)]; rfl, by rw [Lib.cell_of_heap (heap_alloc_new w _)]; rfl⟩
/-- it says whether two types are the same -/
def SameP (t u : Tp) (w : World) (e : Ending) (w' : World) : Prop := ∃ b : Bool, e = .returned (.bool b) ∧ (b = true ↔ t = u) ∧ Below w.heap.size w w'
def SameC (f : FuncId) (A1 A2 : Nat → Prop) (t u : Tp) : Prop := ∀ (q1 q2 : Rw) (w : World), IsP A1 w q1 t → IsP A2 w q2 u →
  Calls Try.prog f #[.agg #[.string q1.name, .slice q1.p q1.n q1.cap], .agg #[.string q2.name, .slice q2.p q2.n q2.cap]] w (SameP t u w)
theorem bytes_ne2 {a b : ByteArray} (h : a ≠ b) : (a.toList == b.toList) = false := by
  rw [Bool.eq_false_iff]
  intro e
  apply h
  have e2 := eq_of_beq e
  rw [ByteArray.toList_eq, ByteArray.toList_eq] at e2
  obtain ⟨⟨x⟩⟩ := a
  obtain ⟨⟨y⟩⟩ := b
  simp only at e2
  rw [e2]

end Go.Proofs.Ytbnnokibjccdaaa
