/-
  LAWS: a region that draws its order, whose operations only read, and whose callees read, draw, and lay blocks of their own, walked once in the order of the text: at the class of the worlds in which nothing that was there has turned.
-/
import Derived.Below
import Derived.WalkSmall
import Derived.BigQuiet
import Derived.Deep.QuietTactic
import Derived.KernelRfl
namespace Go.Proofs.Ytbnnokibjccdaaa
open Go Go.RowKit
set_option linter.unusedVariables false

/-- how far a world has gone: the count of draws, the blocks laid behind -/
structure Gb where
  d : Nat
  os : Array Obj
instance : Inhabited Gb := ⟨⟨0, #[]⟩⟩
def grew (w : World) (p : Gb) : World := { w with heap := w.heap ++ p.os, drawn := p.d }

theorem grew_block (w : World) (p : Gb) (k : Nat) (h : k < w.heap.size) : (grew w p).heap[k]? = w.heap[k]? := by
  show (w.heap ++ p.os)[k]? = _
  rw [Array.getElem?_append, if_pos h]
theorem grew_below (w : World) (p : Gb) : Below w.heap.size w (grew w p) :=
  ⟨rfl, rfl, rfl, by simp [grew], fun k hk => grew_block w p k hk⟩
theorem below_grew {w w' : World} (h : Below w.heap.size w w') : ∃ p : Gb, w' = grew w p := by
  refine ⟨⟨w'.drawn, w'.heap.extract w.heap.size w'.heap.size⟩, ?_⟩
  have hh : w'.heap = w.heap ++ w'.heap.extract w.heap.size w'.heap.size := by
    apply Array.ext_getElem?
    intro k
    rw [Array.getElem?_append]
    by_cases hk : k < w.heap.size
    · rw [if_pos hk]; exact h.block k hk
    · rw [if_neg hk, Array.getElem?_extract]
      have := h.size
      by_cases h2 : k < w'.heap.size
      · rw [if_pos (by omega)]; congr 1; omega
      · rw [if_neg (by omega)]; simp; omega
  have h1 := h.os
  have h2 := h.tape
  have h3 := h.output
  cases w'
  cases w
  simp only at *
  subst h1
  subst h2
  subst h3
  simp only [grew]
  rw [← hh]
theorem cell_grew {w : World} {a : Addr} {v : Value} (h : w.cell? a = some v) (p : Gb) : (grew w p).cell? a = some v := by
  rw [(grew_below w p).cell (World.block_lt_of_cell? w _ h)]; exact h
/-- a callee's contract, met in a world of the class -/
theorem Calls.grew_of {P : Program} {f : FuncId} {args : Array Value} {w : World} {p : Gb} {v : Value}
    (h : Calls P f args (grew w p) fun e w' => e = .returned v ∧ Below (grew w p).heap.size (grew w p) w') : Calls P f args (grew w p) fun e w'' => e = .returned v ∧ ∃ q : Gb, w'' = grew w q :=
  h.mono fun _ _ ⟨he, hb⟩ => ⟨he, below_grew ((grew_below w p).trans (hb.mono (grew_below w p).size))⟩
theorem wp_region_grew {P : Program} {id : Nat} {Q : Exit → Act → World → Prop} {a : Act} {w : World} {l : List Oper} (hm : P.follows .mixedOrders = true) (hB : Region.lexB .any l.toArray = true)
    (h : wpQuiet P l.toArray (fun w' => ∃ p : Gb, w' = grew w p) (fun a' => ∀ w', (∃ p : Gb, w' = grew w p) → Q .normal a' w') l a) : (Code.region id l.toArray true).wp P Q a w :=
  wp_region_quiet (C := fun w' => ∃ p : Gb, w' = grew w p) hm hB (below_grew (Below.refl _ _).drew) (by simpa using h)
theorem of_grew {w w' : World} (h : ∃ p : Gb, w' = grew w p) : Below w.heap.size w w' := by
  obtain ⟨p, rfl⟩ := h
  exact grew_below w p
end Go.Proofs.Ytbnnokibjccdaaa
