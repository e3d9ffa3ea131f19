/-
  CONTRACT: the reference's Expr and Type.
-/
import Derived.Test.YtheigpiffdabnaaGreatZR4
import Derived.Test.YtheigpiffdabnaaGreatZL4
import Derived.Below
import Derived.WalkSmall
import Derived.BigQuiet
import Derived.Deep.QuietTactic
import Derived.KernelRfl
set_option linter.unusedSimpArgs false
set_option linter.unusedVariables false
namespace Go.Proofs.YtheigpiffdabnaaGreat
open Go Go.RowKit
theorem eql_toks (a : Addr) (n c : Nat) (w : World) : (binOp .eql 52 (.slice (some a) n c) (.slice none 0 0)).run Tryz.prog w = .ok (.bool false) w := by kernel_rfl
theorem eql_toks0 (w : World) : (binOp .eql 52 (.slice none 0 0) (.slice none 0 0)).run Tryz.prog w = .ok (.bool true) w := by kernel_rfl
attribute [local go_sem] eql_toks eql_toks0 field_tok0 field_tok1 field_tok2
end Go.Proofs.YtheigpiffdabnaaGreat
namespace Go.Proofs.YtheigpiffdabnaaGreat
open Go Go.RowKit
attribute [local go_sem] eql_toks eql_toks0 field_tok0 field_tok1 field_tok2
end Go.Proofs.YtheigpiffdabnaaGreat
namespace Go.Proofs.YtheigpiffdabnaaGreat
open Go Go.RowKit
set_option maxRecDepth 100000 in
set_option maxHeartbeats 1000000 in
theorem rSame_any (k a : Int) (s : ByteArray) (p1 p2 : Option Addr) (n1 n2 c1 c2 : Nat) (w : World)
  (hL : ∀ w1, Below w.heap.size w w1 → Calls Tryz.prog 22 #[.slice p1 n1 c1, .slice p2 n2 c2] w1 fun e w' => e = .returned (.bool true) ∧ Below w1.heap.size w1 w') :
  Calls Tryz.prog 11 #[.agg (ndC ⟨k, s, a, p1, n1, c1⟩), .agg (ndC ⟨k, s, a, p2, n2, c2⟩)] w fun e w' => e = .returned (.bool true) ∧ Below w.heap.size w w' := by
 have hz1 : (w.alloc (.cells (ndC ⟨k, s, a, p1, n1, c1⟩) 37)).heap[w.heap.size]? = some (.cells (ndC ⟨k, s, a, p1, n1, c1⟩) 37 (0, 0)) := heap_alloc_new w _
 have hb1 := boxB w (.cells (ndC ⟨k, s, a, p1, n1, c1⟩) 37)
 have hs1 : (w.alloc (.cells (ndC ⟨k, s, a, p1, n1, c1⟩) 37)).heap.size = w.heap.size + 1 := Array.size_push ..
 have hz2 := heap_alloc_new (w.alloc (.cells (ndC ⟨k, s, a, p1, n1, c1⟩) 37)) (.cells (ndC ⟨k, s, a, p2, n2, c2⟩) 37)
 have hb2 := boxB (w.alloc (.cells (ndC ⟨k, s, a, p1, n1, c1⟩) 37)) (.cells (ndC ⟨k, s, a, p2, n2, c2⟩) 37)
 have hz3 := hz1
 rw [← hb2.block w.heap.size (lt_heap hz1)] at hz3
 have hbb := hb1.trans (hb2.mono hb1.size)
 rw [hs1] at hz2
 have HB := Lib.hid hbb
 have HLL := Lib.hid hL
 have b0 : ((w.alloc (.cells (ndC ⟨k, s, a, p1, n1, c1⟩) 37)).alloc (.cells (ndC ⟨k, s, a, p2, n2, c2⟩) 37)).cell? ⟨w.heap.size, 0, none⟩ = some (.int .i64 k) := by rw [Lib.cell_of_heap hz3]; rfl
 have b1 : ((w.alloc (.cells (ndC ⟨k, s, a, p1, n1, c1⟩) 37)).alloc (.cells (ndC ⟨k, s, a, p2, n2, c2⟩) 37)).cell? ⟨w.heap.size, 1, none⟩ = some (.string s) := by rw [Lib.cell_of_heap hz3]; rfl
 have b2 : ((w.alloc (.cells (ndC ⟨k, s, a, p1, n1, c1⟩) 37)).alloc (.cells (ndC ⟨k, s, a, p2, n2, c2⟩) 37)).cell? ⟨w.heap.size, 2, none⟩ = some (.int .i64 a) := by rw [Lib.cell_of_heap hz3]; rfl
 have b3 : ((w.alloc (.cells (ndC ⟨k, s, a, p1, n1, c1⟩) 37)).alloc (.cells (ndC ⟨k, s, a, p2, n2, c2⟩) 37)).cell? ⟨w.heap.size, 3, none⟩ = some (.slice p1 n1 c1) := by rw [Lib.cell_of_heap hz3]; rfl
 have d0 : ((w.alloc (.cells (ndC ⟨k, s, a, p1, n1, c1⟩) 37)).alloc (.cells (ndC ⟨k, s, a, p2, n2, c2⟩) 37)).cell? ⟨w.heap.size + 1, 0, none⟩ = some (.int .i64 k) := by rw [Lib.cell_of_heap hz2]; rfl
 have d1 : ((w.alloc (.cells (ndC ⟨k, s, a, p1, n1, c1⟩) 37)).alloc (.cells (ndC ⟨k, s, a, p2, n2, c2⟩) 37)).cell? ⟨w.heap.size + 1, 1, none⟩ = some (.string s) := by rw [Lib.cell_of_heap hz2]; rfl
 have d2 : ((w.alloc (.cells (ndC ⟨k, s, a, p1, n1, c1⟩) 37)).alloc (.cells (ndC ⟨k, s, a, p2, n2, c2⟩) 37)).cell? ⟨w.heap.size + 1, 2, none⟩ = some (.int .i64 a) := by rw [Lib.cell_of_heap hz2]; rfl
 have d3 : ((w.alloc (.cells (ndC ⟨k, s, a, p1, n1, c1⟩) 37)).alloc (.cells (ndC ⟨k, s, a, p2, n2, c2⟩) 37)).cell? ⟨w.heap.size + 1, 3, none⟩ = some (.slice p2 n2 c2) := by rw [Lib.cell_of_heap hz2]; rfl
 clear hz1 hz2 hz3 hb1 hb2 hbb hs1 hL
 unfold ndC at b0 b1 b2 b3 d0 d1 d2 d3 HB ⊢
 go_enter Tryz.func11, Tryz.ntmps11
 go_wp2_with fail
 refine (HLL.out _ HB.out).mono ?_
 rintro e w2 ⟨rfl, hb⟩
 have HB2 : Hid (Below w.heap.size w w2) := HB.out.trans (hb.mono HB.out.size)
 clear hb
 go_wp2_with fail
 go_ret
 exact ⟨rfl, HB2.out⟩
end Go.Proofs.YtheigpiffdabnaaGreat
namespace Go.Proofs.YtheigpiffdabnaaGreat
open Go Go.RowKit
/-- how far a world has gone: the count of draws, the blocks laid behind -/
structure Gb where
 d : Nat
 os : Array Obj
instance : Inhabited Gb := ⟨⟨0, #[]⟩⟩
def grew (w : World) (p : Gb) : World := { w with heap := w.heap ++ p.os, drawn := p.d }
theorem grew_block (w : World) (p : Gb) (k : Nat) (h : k < w.heap.size) : (grew w p).heap[k]? = w.heap[k]? := by
 show (w.heap ++ p.os)[k]? = _
 rw [Array.getElem?_append, if_pos h]
theorem grew_below (w : World) (p : Gb) : Below w.heap.size w (grew w p) :=
 ⟨rfl, rfl, rfl, by simp [grew], fun k hk => grew_block w p k hk⟩
theorem below_grew {w w' : World} (h : Below w.heap.size w w') : ∃ p : Gb, w' = grew w p := by
 refine ⟨⟨w'.drawn, w'.heap.extract w.heap.size w'.heap.size⟩, ?_⟩
 have hh : w'.heap = w.heap ++ w'.heap.extract w.heap.size w'.heap.size := by
  apply Array.ext_getElem?
  intro k
  rw [Array.getElem?_append]
  by_cases hk : k < w.heap.size
  ·rw [if_pos hk]; exact h.block k hk
  ·rw [if_neg hk, Array.getElem?_extract]
   have := h.size
   by_cases h2 : k < w'.heap.size
   ·rw [if_pos (by omega)]; congr 1; omega
   ·rw [if_neg (by omega)]; simp; omega
 have h1 := h.os
 have h2 := h.tape
 have h3 := h.output
 cases w'
 cases w
 simp only at *
 subst h1
 subst h2
 subst h3
 simp only [grew]
 rw [← hh]
theorem cell_grew {w : World} {a : Addr} {v : Value} (h : w.cell? a = some v) (p : Gb) : (grew w p).cell? a = some v := by
 rw [(grew_below w p).cell (World.block_lt_of_cell? w _ h)]; exact h
/-- a callee's contract, met in a world of the class -/
theorem Calls.grew_of {P : Program} {f : FuncId} {args : Array Value} {w : World} {p : Gb} {v : Value}
  (h : Calls P f args (grew w p) fun e w' => e = .returned v ∧ Below (grew w p).heap.size (grew w p) w') : Calls P f args (grew w p) fun e w'' => e = .returned v ∧ ∃ q : Gb, w'' = grew w q :=
 h.mono fun _ _ ⟨he, hb⟩ => ⟨he, below_grew ((grew_below w p).trans (hb.mono (grew_below w p).size))⟩
theorem wp_region_grew {P : Program} {id : Nat} {Q : Exit → Act → World → Prop} {a : Act} {w : World} {l : List Oper} (hm : P.follows .mixedOrders = true) (hB : Region.lexB .any l.toArray = true)
  (h : wpQuiet P l.toArray (fun w' => ∃ p : Gb, w' = grew w p) (fun a' => ∀ w', (∃ p : Gb, w' = grew w p) → Q .normal a' w') l a) : (Code.region id l.toArray true).wp P Q a w :=
 wp_region_quiet (C := fun w' => ∃ p : Gb, w' = grew w p) hm hB (below_grew (Below.refl _ _).drew) (by simpa using h)
theorem of_grew {w w' : World} (h : ∃ p : Gb, w' = grew w p) : Below w.heap.size w w' := by
 obtain ⟨p, rfl⟩ := h
 exact grew_below w p
end Go.Proofs.YtheigpiffdabnaaGreat
namespace Go.Proofs.YtheigpiffdabnaaGreat
open Go Go.RowKit
set_option maxRecDepth 100000 in
set_option maxHeartbeats 1000000 in
theorem rSameL_any {A1 A2 : Nat → Prop} (p1 p2 : Option Addr) (n1 n2 c1 c2 : Nat) (l : List Tree) (w : World) (few : l.length ≤ 9223372036854775807) (h1 : IsTs A1 w (.slice p1 n1 c1) l) (h2 : IsTs A2 w (.slice p2 n2 c2) l)
  (hS : ∀ j (hj : j < l.length) q1 q2 w1, IsT A1 w1 q1 l[j] → IsT A2 w1 q2 l[j] → Calls Tryz.prog 11 #[.agg (ndC q1), .agg (ndC q2)] w1 fun e w' => e = .returned (.bool true) ∧ Below w1.heap.size w1 w') :
  Calls Tryz.prog 22 #[.slice p1 n1 c1, .slice p2 n2 c2] w fun e w' => e = .returned (.bool true) ∧ Below w.heap.size w w' := by
 have e1 := h1.at_.1
 have e2 := h2.at_.1
 subst e1
 have e2' : n2 = l.length := e2
 subst e2'
 have H1 := Lib.hid h1
 have H2 := Lib.hid h2
 have HSS := Lib.hid hS
 clear h1 h2 hS e2
 obtain ⟨n, hn⟩ : ∃ n, l.length = n := ⟨_, rfl⟩
 have Hn := Lib.hid hn
 rw [hn] at few
 rw [hn] at H1 H2
 rw [hn]
 clear hn
 go_enter Tryz.func22, Tryz.ntmps22
 go_wp2
 go_loopw [5] (fun i wr => ∃ j : Nat, j ≤ n ∧ i = .int .i64 j ∧ Hid (Below w.heap.size w wr)) (fun i _ => n - (intOf i).toNat)
 case atStart => exact ⟨0, Nat.zero_le _, rfl, Below.refl _ _⟩
 case round =>
  obtain ⟨j, hj, rfl, hb⟩ := hrel
  by_cases hlt : j < n
  ·have hjl : j < l.length := by rw [Hn.out]; exact hlt
   obtain ⟨b1, off1, q1, rfl, ht1, x0, x1, x2, x3⟩ := (H1.out.later hb.out).at_.2 j hjl
   obtain ⟨b2, off2, q2, rfl, ht2, y0, y1, y2, y3⟩ := (H2.out.later hb.out).at_.2 j hjl
   have HC := Lib.hid (fun p => HSS.out j hjl q1 q2 (grew wr p) (ht1.later (grew_below wr p)) (ht2.later (grew_below wr p)))
   have hi1 : (j : Int) < (n : Int) := by omega
   have u0 := fun p => cell_grew (w := wr) x0 p
   have u1 := fun p => cell_grew (w := wr) x1 p
   have u2 := fun p => cell_grew (w := wr) x2 p
   have u3 := fun p => cell_grew (w := wr) x3 p
   have v0 := fun p => cell_grew (w := wr) y0 p
   have v1 := fun p => cell_grew (w := wr) y1 p
   have v2 := fun p => cell_grew (w := wr) y2 p
   have v3 := fun p => cell_grew (w := wr) y3 p
   clear ht1 ht2 x0 x1 x2 x3 y0 y1 y2 y3 hjl
   unfold ndC at HC
   go_wp2_with fail
   refine wp_region_grew (by kernel_rfl) (by kernel_rfl) ?_
   repeat (go_big_quiet_step ((go_at_call 11; exact Calls.grew_of (HC.out _))))
   refine wpQuiet_nil ?_
   intro w1 hq
   have HQ := Lib.hid (of_grew hq)
   clear hq
   go_wp2_with fail
   go_roundw
   case rel => exact ⟨j + 1, by omega, by go_num, hb.out.trans (HQ.out.mono hb.out.size)⟩
   case measure => simp [intOf]; omega
  ·have hi1 : ¬ (j : Int) < (n : Int) := by omega
   go_wp2
   go_ret
   exact ⟨rfl, hb.out⟩
end Go.Proofs.YtheigpiffdabnaaGreat
namespace Go.Proofs.YtheigpiffdabnaaGreat
open Go Go.RowKit
theorem IsTs.few {A : Nat → Prop} {w : World} {p : Option Addr} {n c : Nat} {l : List Tree} (h : IsTs A w (.slice p n c) l) : l.length ≤ 9223372036854775807 := by
 have e := h.at_.1
 obtain ⟨p', n', cap', R, e2, h1, _⟩ := h
 cases e2
 obtain ⟨_, h3, h4, _⟩ := h1.lies
 have : maxLen ≤ 9223372036854775807 := by decide
 omega
theorem rSameN_any {A1 A2 : Nat → Prop} : ∀ (N : Nat) (t : Tree), SizeOf.sizeOf t < N → ∀ (q1 q2 : Raw) (w : World), IsT A1 w q1 t → IsT A2 w q2 t →
  Calls Tryz.prog 11 #[.agg (ndC q1), .agg (ndC q2)] w fun e w' => e = .returned (.bool true) ∧ Below w.heap.size w w'
 | 0, t, hN, _, _, _, _, _ => absurd hN (by omega)
 | N + 1, .mk k s a l, hN, ⟨k1, s1, a1, p1, n1, c1⟩, ⟨k2, s2, a2, p2, n2, c2⟩, w, h1, h2 => by
  obtain ⟨e1, e2, e3, g1⟩ := h1.parts
  obtain ⟨f1, f2, f3, g2⟩ := h2.parts
  have e1' : k1 = k := e1
  have e2' : s1 = s := e2
  have e3' : a1 = a := e3
  have f1' : k2 = k := f1
  have f2' : s2 = s := f2
  have f3' : a2 = a := f3
  subst e1' e2' e3'
  subst f1' f2' f3'
  have g1' : IsTs A1 w (.slice p1 n1 c1) l := g1
  have g2' : IsTs A2 w (.slice p2 n2 c2) l := g2
  exact rSame_any _ _ _ p1 p2 n1 n2 c1 c2 w fun w1 hb =>
   rSameL_any p1 p2 n1 n2 c1 c2 l w1 g1'.few (g1'.later hb) (g2'.later hb) fun j hj r1 r2 w2 i1 i2 =>
    rSameN_any N l[j] (by
     have h3 := List.sizeOf_lt_of_mem (List.getElem_mem hj)
     simp only [Tree.mk.sizeOf_spec] at hN
     omega) r1 r2 w2 i1 i2
theorem rSameT_any {A1 A2 : Nat → Prop} (t : Tree) (q1 q2 : Raw) (w : World) (h1 : IsT A1 w q1 t) (h2 : IsT A2 w q2 t) :
  Calls Tryz.prog 11 #[.agg (ndC q1), .agg (ndC q2)] w fun e w' => e = .returned (.bool true) ∧ Below w.heap.size w w' := rSameN_any _ t (Nat.lt_succ_self _) q1 q2 w h1 h2
end Go.Proofs.YtheigpiffdabnaaGreat
