/-
  PLAIN: the text of a type; what is no row of bytes is kept.
-/
import Derived.Test.YtbnnokibjccdaaaTpG
namespace Go.Proofs.Ytbnnokibjccdaaa
open Go Go.RowKit
set_option linter.unusedVariables false
set_option linter.unusedSimpArgs false

abbrev byT : TypeId := 5
/-- what is no row of bytes, and not this block, is as it was -/
def Kept8 (b : Nat) (w w' : World) : Prop := ∀ (k : Nat) (cs : Array Value) (T : TypeId) (r : Nat × Nat), T ≠ byT → k ≠ b → w.heap[k]? = some (.cells cs T r) → w'.heap[k]? = some (.cells cs T r)
theorem Kept8.trans {b : Nat} {w w1 w2 : World} (h : Kept8 b w w1) (k : Kept8 b w1 w2) : Kept8 b w w2 := fun x cs T r hT hb hc => k x cs T r hT hb (h x cs T r hT hb hc)
theorem Kept8.of_below {b : Nat} {w w' : World} (h : Below w.heap.size w w') : Kept8 b w w' := fun x cs T r _ _ hc => (h.block x (by
  rcases Nat.lt_or_ge x w.heap.size with q | q
  · exact q
  · rw [Array.getElem?_eq_none q] at hc; cases hc)).trans hc
theorem heap_lt8 {w : World} {b : Nat} {o : Obj} (h : w.heap[b]? = some o) : b < w.heap.size := by
  rcases Nat.lt_or_ge b w.heap.size with h' | h'
  · exact h'
  · rw [Array.getElem?_eq_none h'] at h; cases h
theorem row_type {w : World} {B : Nat} {e : TypeId} {v : Value} {n : Nat} {xs : List Value} {k : Nat} {cs : Array Value} {T : TypeId} {r : Nat × Nat} (h : w.ownsRow B e 1 v n xs) (hk : v.ownBlock = some k) (hc : w.heap[k]? = some (.cells cs T r)) : T = e := by
  obtain ⟨_, ⟨hv, _⟩ | ⟨g, cap, cur, hv, _, hg, _⟩⟩ := h
  · rw [hv] at hk; cases hk
  · rw [hv] at hk
    simp [Value.ownBlock] at hk
    subst hk
    rw [hg] at hc
    injection hc with hc
    injection hc with _ hc _
    exact hc.symm
/-! ### the text of a type -/
/-- the first of some args, with marks -/
def argsL : List (List UInt8) → List UInt8
  | [] => []
  | x :: xs => 60 :: (x ++ xs.flatMap (fun y => 44 :: y))
def prL : Tp → List UInt8
  | .mk s l => s.data.toList ++ (argsL (l.map prL) ++ (if l.length = 0 then [] else [62]))
theorem prL_mk (s : ByteArray) (l : List Tp) : prL (.mk s l) = s.data.toList ++ (argsL (l.map prL) ++ (if l.length = 0 then [] else [62])) := by rw [prL]
theorem argsL_push (L : List (List UInt8)) (x : List UInt8) : argsL (L ++ [x]) = argsL L ++ ((if L.length = 0 then 60 else 44) :: x) := by
  cases L with
  | nil => simp [argsL]
  | cons y L => simp [argsL]
theorem argsL_take (L : List (List UInt8)) {j : Nat} (hj : j < L.length) : argsL (L.take (j + 1)) = argsL (L.take j) ++ ((if j = 0 then 60 else 44) :: L[j]) := by
  rw [List.take_succ_eq_append_getElem hj, argsL_push, List.length_take, Nat.min_eq_left (by omega)]
theorem argsL_take_le (L : List (List UInt8)) (j : Nat) : (argsL (L.take j)).length ≤ (argsL L).length := by
  rcases Nat.lt_or_ge j L.length with h | h
  · have key : ∀ m, j ≤ m → m ≤ L.length → (argsL (L.take j)).length ≤ (argsL (L.take m)).length := by
      intro m
      induction m with
      | zero => intro h0 _; have : j = 0 := by omega
                subst this; exact Nat.le_refl _
      | succ m ih =>
        intro h1 h2
        by_cases e : j = m + 1
        · subst e; exact Nat.le_refl _
        · have := ih (by omega) (by omega)
          rw [argsL_take L (by omega)]
          simp only [List.length_append]
          omega
    have := key L.length (by omega) (Nat.le_refl _)
    rwa [List.take_length] at this
  · rw [List.take_of_length_le h]; exact Nat.le_refl _
/-- the text of a type -/
def prS (t : Tp) : ByteArray := ⟨(prL t).toArray⟩
theorem prS_data (t : Tp) : (prS t).data.toList = prL t := by simp [prS]
theorem IsP.low {B : Nat} {w w' : World} {q : Rw} {t : Tp} (h : IsP (fun k => k < B) w q t) (hb : Below B w w') : IsP (fun k => k < B) w' q t := h.keepB (fun k hk _ => hb.block k hk)
theorem IsPs.low {B : Nat} {w w' : World} {v : Value} {l : List Tp} (h : IsPs (fun k => k < B) w v l) (hb : Below B w w') : IsPs (fun k => k < B) w' v l := by
  obtain ⟨p, c, rfl, h2⟩ := h.shape
  have h3 := (IsP.node (s := ⟨#[]⟩) h2).low hb
  exact h3.parts.2
end Go.Proofs.Ytbnnokibjccdaaa
