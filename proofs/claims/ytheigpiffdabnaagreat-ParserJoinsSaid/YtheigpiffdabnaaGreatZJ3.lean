/-
  PLAIN: a tree without places; CONTRACT: Strip of the reference.
-/
import Derived.Test.YtheigpiffdabnaaGreatZR5
import Derived.Test.YtheigpiffdabnaaGreatZP1
import Derived.Test.YtheigpiffdabnaaGreatZP2
import Derived.Test.YtheigpiffdabnaaGreatZL4
set_option linter.unusedSectionVars false
set_option linter.unusedSimpArgs false
set_option linter.unusedVariables false
namespace Go.Proofs.YtheigpiffdabnaaGreat
open Go Go.RowKit
def strip : Tree → Tree
 | .mk k s a l => .mk k s 0 (l.map strip)
theorem strip_mk (k : Int) (s : ByteArray) (a : Int) (l : List Tree) : strip (.mk k s a l) = .mk k s 0 (l.map strip) := by rw [strip]
theorem TR.strip : ∀ (N : Nat) (t t' : Tree), SizeOf.sizeOf t < N → TR PA t t' → Proofs.YtheigpiffdabnaaGreat.strip t = Proofs.YtheigpiffdabnaaGreat.strip t'
 | 0, t, t', hN, _ => absurd hN (by omega)
 | N + 1, .mk k s a l, .mk k' s' a' l', hN, h => by
  cases h with
  | mk h1 h2 h3 =>
   rw [strip_mk, strip_mk]
   congr 1
   apply List.ext_getElem
   ·simp [h2]
   ·intro i hi hi'
    simp only [List.length_map] at hi hi'
    simp only [List.getElem_map]
    refine TR.strip N _ _ ?_ (h3 i hi hi')
    have := List.sizeOf_lt_of_mem (List.getElem_mem hi)
    simp only [Tree.mk.sizeOf_spec] at hN
    omega
/-- what the operations of a region turn: ia puts a node behind a list of one's own, all others make memory at most -/
def Sy (ob : Option Nat) (ia : Nat) (i : Nat) (x y : World) : Prop := if i = ia then x.grownBy y ob else But (fun _ => False) x y
structure InvY (w0 : World) (ob : Option Nat) (wr W : World) : Prop where
 be : Below w0.heap.size w0 W
 size : wr.heap.size ≤ W.heap.size
 block : ∀ k, k < wr.heap.size → ob ≠ some k → W.heap[k]? = wr.heap[k]?
theorem InvY.step {w0 : World} {ob : Option Nat} {wr x y : World} {ia : Nat} (i : Nat) (hs : Sy ob ia i x y) (h : InvY w0 ob wr x) (hob : ∀ g, ob = some g → w0.heap.size ≤ g) : InvY w0 ob wr y := by
 unfold Sy at hs
 split at hs
 ·exact ⟨h.be.grown hs h.be.size hob, Nat.le_trans h.size hs.size, fun k hk h2 => (hs.block k (by have := h.size; omega) (fun e => h2 e.symm)).trans (h.block k hk h2)⟩
 ·exact ⟨h.be.trans (But.below hs h.be.size (fun a e => e.elim)), Nat.le_trans h.size hs.size, fun k hk h2 => (hs.block k (by have := h.size; omega) (fun _ _ q => q)).trans (h.block k hk h2)⟩
theorem InvY.start {w0 wr : World} {ob : Option Nat} (hm : Below w0.heap.size w0 wr) : InvY w0 ob wr wr.drew := ⟨hm.drew, Nat.le_refl _, fun _ _ _ => rfl⟩
def F0y (B : Nat) (v : Value) (ts : List Tree) (ia : Nat) : Facts := fun k W => k = ia → Nodes B W v ts
theorem F0y.keeps {B : Nat} {v : Value} {ts : List Tree} {ia : Nat} : KeepsS (Sy v.ownBlock ia) (F0y B v ts ia) := by
 intro i k x y hk hs hf e
 unfold Sy at hs
 split at hs
 ·omega
 ·exact (hf e).but0 hs
theorem F0y.start {B : Nat} {v : Value} {ts : List Tree} {ia : Nat} {w : World} (hn : Nodes B w v ts) : ∀ k, F0y B v ts ia k w.drew := fun k _ => hn.but0 (But.drew w)
section
variable {ob : Option Nat} {ia k : Nat} {wr : World} {P : Program} {Pn : Ending → World → Prop} {A : Nat → Prop}
theorem Sy.tree {i : Nat} {x y : World} {q : Raw} {t : Tree} (hs : Sy ob ia i x y) (h : IsT A x q t) (hA : ∀ b, A b → ob ≠ some b) : IsT A y q t := by
 unfold Sy at hs
 split at hs
 ·exact h.same (same_grown hs) (fun a e q => hA _ q e)
 ·exact h.but hs (fun _ q => q.elim)
theorem Sy.list {i : Nat} {x y : World} {v : Value} {l : List Tree} (hs : Sy ob ia i x y) (h : IsTs A x v l) (hA : ∀ b, A b → ob ≠ some b) : IsTs A y v l := by
 obtain ⟨p, n, cap, R, e, h1, h2, h3, h4, h5⟩ := h
 refine ⟨p, n, cap, R, e, ?_, h2, h3, h4, fun i a b => Sy.tree hs (h5 i a b) hA⟩
 unfold Sy at hs
 split at hs
 ·exact SlIs.butN h1 (same_grown hs) (fun b o i e h0 q => hA _ (h3 b o e h0) q)
 ·exact SlIs.butN h1 hs.same (fun b o i e h0 q => q)
theorem tyNodeY_good {G : Tree → Prop} (hA : ∀ b, A b → ob ≠ some b) : GoodS (Sy ob ia) k (tyNodeA A G) := by
 intro j x w w' hj hs ⟨h1, h2⟩
 exact ⟨Sy.tree hs h1 hA, h2⟩
theorem tyRowY_good {n : Nat} {G : List Tree → Prop} (hA : ∀ b, A b → ob ≠ some b) : GoodS (Sy ob ia) k (tyRowA A n G) := by
 intro j x w w' hj hs ⟨h1, h2⟩
 exact ⟨Sy.list hs h1 hA, h2⟩
theorem tyListY_good {B : Nat} {G : List Tree → Prop} : GoodS (Sy ob ia) ia (tyList B ob wr G) := by
 intro j x w w' hj hs ⟨h1, h2, h3⟩
 refine ⟨?_, h2, h3⟩
 unfold Sy at hs
 rw [if_neg hj] at hs
 exact h1.but0 hs
theorem sy_is {v : Value} {w : World} (h2 : k ≠ ia) : oneUpon P (Sy ob ia k) Pn (tvIs v) w (.ok (.value v) w) := by
 refine ⟨?_, (), rfl, trivial⟩
 unfold Sy
 rw [if_neg h2]
 exact But.refl _ _
theorem sy_call {w0 W : World} {t : Tree} {g : FuncId} {args : Array Value} (hI : InvY w0 ob wr W) (h2 : k ≠ ia) (hA : ∀ b, wr.heap.size ≤ b → A b)
  (hc : Calls P g args W fun e w' => ∃ q, e = .returned (.agg (ndC q)) ∧ IsT (fun b => W.heap.size ≤ b) w' q t ∧ Below W.heap.size W w') :
  oneUpon P (Sy ob ia k) Pn (tyNodeA A fun u => u = t) W (.ok (.enter g args) W) := by
 refine hc.mono ?_
 rintro e w' ⟨q, rfl, ht, hb⟩
 refine .inl ⟨(q, t), rfl, ?_, ht.mono (fun b hb => hA b (Nat.le_trans hI.size hb)), rfl⟩
 unfold Sy
 rw [if_neg h2]
 exact But.of_below hb
theorem sy_row {w0 W : World} {n : Nat} {G : List Tree → Prop} {cs : Array Value} {ty : TypeId} (qs : List Raw) (l : List Tree) (hI : InvY w0 ob wr W) (hA : ∀ b, wr.heap.size ≤ b → A b) (h2 : k ≠ ia) (hcs : cs.toList = rawEnc.all qs) (hn : n = qs.length) (hl : qs.length = l.length) (h0 : 0 < n) (hm : n ≤ maxLen)
  (hT : ∀ i (h1 : i < qs.length) (h2 : i < l.length), IsT A W qs[i] l[i]) (hG : G l) :
  oneUpon P (Sy ob ia k) Pn (tyRowA A n G) W (.ok (.value (.slice (some ⟨W.heap.size, 0, none⟩) n n)) (W.alloc (.cells cs ty))) := by
 refine ⟨?_, (W.heap.size, l), rfl, IsTs.rowAt cs qs l (heap_alloc_new W _) hcs hn hl h0 hm (hA _ hI.size) (fun i a b => (hT i a b).later (boxB W _)), hG⟩
 unfold Sy
 rw [if_neg h2]
 exact But.alloc W _
end
theorem sy_push {ia : Nat} {w0 wr W : World} {Pn : Ending → World → Prop} {B : Nat} {v : Value} {ts l : List Tree} {g' : Nat} {G : List Tree → Prop} {ops : Array Oper} {o : Oper} {a : Act}
  (hgd : o.guard = none) (s x : Operand) (ho : o.op = .call { callee := .builtin .append, args := #[s, x], argTypes := #[31, 31] })
  (hs : a.eval s = v) (hx : a.eval x = .slice (some ⟨g', 0, none⟩) 1 1) (hI : InvY w0 v.ownBlock wr W)
  (hN : Nodes B W v ts) (hB : B ≤ wr.heap.size) (hob : ∀ g, v.ownBlock = some g → g < wr.heap.size) {A : Nat → Prop} (hA : ∀ b, A b → B ≤ b ∧ v.ownBlock ≠ some b) (hl : IsTs A W (.slice (some ⟨g', 0, none⟩) 1 1) l) (hlen : ts.length ≤ 100000) (hG : G (ts ++ l)) :
  oneAt Tryz.prog ops (Sy v.ownBlock ia ia) Pn (tyList B v.ownBlock wr G) o a W := by
 obtain ⟨i0, hi, hz0, hz1, hz2⟩ := info_parts infoTree
 obtain ⟨R, hown, hRl, hT⟩ := hN
 obtain ⟨p', n', cap', Rl, e, hsl, _, _, hll, hlT⟩ := hl
 cases e
 obtain ⟨hn1, _, _, hlies⟩ := hsl.lies
 obtain ⟨b, off, e, hcells⟩ := hlies (by omega)
 injection e with e
 injection e with e1 e2 _
 subst e1
 subst e2
 have hsz := hI.size
 obtain ⟨q, rfl⟩ : ∃ q, Rl = [q] := by
  cases Rl with
  | nil => simp at hn1
  | cons q R => cases R with
   | nil => exact ⟨q, rfl⟩
   | cons _ _ => simp at hn1
 have cell : ∀ j u, (rawEnc.cells q)[j]? = some u → W.cell? ((⟨g', 0, none⟩ : Addr).add j) = some u := by
  intro j u hu
  rw [add_lit]
  refine hcells j u ?_
  rw [Enc.all_cons, Enc.all_nil, List.append_nil]
  exact hu
 obtain ⟨v', w', hr, g1, g2, _, g4⟩ := run_append_own_at (P := Tryz.prog) W B 31 o.type 37 i0 _ 4 56 Tryz.underlying31 hi hz0 hz1 hz2 rfl (by decide) v R.length (rawEnc.all R) hown ⟨g', 0, none⟩ 1 1 (rawEnc.cells q) rfl cell (rawEnc.one q) (by unfold maxLen; omega) (by omega) (by omega)
 have hown' : OwnL rawEnc 37 w' B v' (R ++ [q]) := by
  unfold OwnL
  rw [List.length_append, rawEnc.all_append, rawEnc.all_cons, rawEnc.all_nil, List.append_nil]
  exact g1
 have hobt := hown.lt
 have keep : ∀ {A : Nat → Prop} {qq : Raw} {tt : Tree}, IsT A W qq tt → (∀ b, A b → B ≤ b ∧ v.ownBlock ≠ some b) → IsT (fun b => B ≤ b ∧ v'.ownBlock ≠ some b) w' qq tt := by
  intro A qq tt h hA
  refine (h.old.same (same_grown g2) (fun a e q => (hA _ q.1).2 e)).mono (fun b hb => ⟨(hA b hb.1).1, fun e => ?_⟩)
  rcases g4 with g4 | g4
  ·rw [g4] at e; exact (hA b hb.1).2 e
  ·rw [g4] at e
   have : W.heap.size = b := by simpa using e
   have := hb.2
   omega
 have hnodes : Nodes B w' v' (ts ++ l) := by
  have hl1 : l.length = 1 := by rw [← hll]; rfl
  refine ⟨R ++ [q], hown', by simp [hRl, hl1], fun j h1 h2 => ?_⟩
  by_cases hj : j < R.length
  ·rw [List.getElem_append_left hj, List.getElem_append_left (by omega)]
   exact keep (hT j hj (by omega)) (fun b hb => hb)
  ·have hjl : j - ts.length = 0 := by simp at h1; omega
   have e1 : (R ++ [q])[j] = q := by rw [List.getElem_append_right (by omega)]; simp
   have e2 : (ts ++ l)[j] = l[0] := by rw [List.getElem_append_right (by omega)]; simp only [hjl]
   rw [e1, e2]
   have := hlT 0 (by simp) (by omega)
   exact keep this hA
 have hw : Region.wanted o (yielded ops a.tmps) = true := by unfold Region.wanted; rw [hgd]
 unfold oneAt
 rw [if_pos hw]
 have hrun : (execOp a.eval o).run Tryz.prog W = .ok (.value v') w' := by
  unfold execOp
  simp only [ho, resolve, invoke, builtin, Sem.run_bind, Sem.run_pure, Result.andThen_ok, List.map_toArray, List.map_cons, List.map_nil, hs, hx, hr]
 rw [hrun]
 refine ⟨?_, (v', ts ++ l), rfl, hnodes, hG, ?_⟩
 ·unfold Sy
  rw [if_pos rfl]
  exact g2
 ·rcases g4 with g4 | g4
  ·exact .inl g4
  ·exact .inr ⟨_, g4, hsz⟩
/-- a copy that grows -/
structure SBx (w : World) (q : Raw) (k : Int) (s : ByteArray) (p' : Option Addr) (n' c' : Nat) (ts : List Tree) (W : World) : Prop where
 pb : W.heap[w.heap.size]? = some (.cells (ndC q) 37 (0, 0))
 zb : W.heap[w.heap.size + 1]? = some (.cells #[.int .i64 0, .string ⟨#[]⟩, .int .i64 0, .slice none 0 0] 37 (0, 0))
 vb : W.heap[w.heap.size + 2]? = some (.cells (ndC ⟨k, s, 0, p', n', c'⟩) 37 (0, 0))
 nd : Nodes (w.heap.size + 3) W (.slice p' n' c') ts
 be : Below w.heap.size w W
theorem SBx.first (w : World) (q : Raw) (k : Int) (s : ByteArray) : SBx w q k s none 0 0 [] (((w.alloc (.cells (ndC q) 37)).alloc (.cells #[.int .i64 0, .string ⟨#[]⟩, .int .i64 0, .slice none 0 0] 37)).alloc (.cells (ndC ⟨k, s, 0, none, 0, 0⟩) 37)) := by
 have e1 : (w.alloc (.cells (ndC q) 37)).heap.size = w.heap.size + 1 := by simp
 have e2 : ((w.alloc (.cells (ndC q) 37)).alloc (.cells #[.int .i64 0, .string ⟨#[]⟩, .int .i64 0, .slice none 0 0] 37)).heap.size = w.heap.size + 2 := by simp
 refine ⟨?_, ?_, ?_, Nodes.none _ _, (below_box w _).trans (((boxB _ _).mono (by omega)).trans ((boxB _ _).mono (by omega)))⟩
 ·rw [(boxB ((w.alloc (.cells (ndC q) 37)).alloc (.cells #[.int .i64 0, .string ⟨#[]⟩, .int .i64 0, .slice none 0 0] 37)) _).block _ (by omega), (boxB (w.alloc (.cells (ndC q) 37)) _).block _ (by omega)]
  exact heap_alloc_new w _
 ·rw [(boxB ((w.alloc (.cells (ndC q) 37)).alloc (.cells #[.int .i64 0, .string ⟨#[]⟩, .int .i64 0, .slice none 0 0] 37)) _).block _ (by omega), ← e1]
  exact heap_alloc_new (w.alloc (.cells (ndC q) 37)) _
 ·rw [← e2]
  exact heap_alloc_new ((w.alloc (.cells (ndC q) 37)).alloc (.cells #[.int .i64 0, .string ⟨#[]⟩, .int .i64 0, .slice none 0 0] 37)) _
theorem SBx.store {w : World} {q : Raw} {k : Int} {s : ByteArray} {p' p7 : Option Addr} {n' c' n7 c7 : Nat} {ts ts7 : List Tree} {wr W : World} (h : SBx w q k s p' n' c' ts wr) (hI : InvY w (Value.slice p' n' c').ownBlock wr W) (hn : Nodes (w.heap.size + 3) W (.slice p7 n7 c7) ts7) :
  SBx w q k s p7 n7 c7 ts7 (W.setCell ⟨w.heap.size + 2, 3, none⟩ (.slice p7 n7 c7)) := by
 have hob := h.nd.own
 have key : But (fun a => a.block = w.heap.size + 2) W (W.setCell ⟨w.heap.size + 2, 3, none⟩ (.slice p7 n7 c7)) := But.setCell W _ _ rfl
 have b0 : W.heap[w.heap.size]? = some (.cells (ndC q) 37 (0, 0)) := by rw [hI.block _ (lt_heap h.pb) (fun e => by have := (hob _ e).1; omega)]; exact h.pb
 have b1 : W.heap[w.heap.size + 1]? = some (.cells #[.int .i64 0, .string ⟨#[]⟩, .int .i64 0, .slice none 0 0] 37 (0, 0)) := by rw [hI.block _ (lt_heap h.zb) (fun e => by have := (hob _ e).1; omega)]; exact h.zb
 have b2 : W.heap[w.heap.size + 2]? = some (.cells (ndC ⟨k, s, 0, p', n', c'⟩) 37 (0, 0)) := by rw [hI.block _ (lt_heap h.vb) (fun e => by have := (hob _ e).1; omega)]; exact h.vb
 refine ⟨?_, ?_, heap_setCell_same _ _ _ _ _ _ b2, ?_, hI.be.trans (But.below key hI.be.size (fun a e => by have e' : a.block = w.heap.size + 2 := e; omega))⟩
 ·rw [But.block key _ (lt_heap b0) (fun a ha e => by have e' : a.block = w.heap.size + 2 := e; omega)]; exact b0
 ·rw [But.block key _ (lt_heap b1) (fun a ha e => by have e' : a.block = w.heap.size + 2 := e; omega)]; exact b1
 ·obtain ⟨R, ⟨h1, h2⟩, hl, ht⟩ := hn
  refine ⟨R, ⟨h1, ?_⟩, hl, fun i a c => (ht i a c).but key (fun a e q => by have e' : a.block = w.heap.size + 2 := e; have := q.1; omega)⟩
  rcases h2 with h2 | ⟨g', c', cur, hv, hg, hh, rest⟩
  ·exact .inl h2
  ·exact .inr ⟨g', c', cur, hv, hg, by rw [But.block key g' (lt_heap hh) (fun a ha e => by have e' : a.block = w.heap.size + 2 := e; omega)]; exact hh, rest⟩
theorem below_cell {w W : World} {a : Addr} {v : Value} (hb : Below w.heap.size w W) (h : w.cell? a = some v) : W.cell? a = some v := by rw [hb.cell (World.block_lt_of_cell? w _ h)]; exact h
theorem cells_of {W : World} {b : Nat} {q : Raw} (h : W.heap[b]? = some (.cells (ndC q) 37 (0, 0))) : W.cell? ⟨b, 0, none⟩ = some (.int .i64 q.kind) ∧ W.cell? ⟨b, 1, none⟩ = some (.string q.text) ∧ W.cell? ⟨b, 2, none⟩ = some (.int .i64 q.at_) ∧ W.cell? ⟨b, 3, none⟩ = some (.slice q.p q.n q.cap) ∧ ∀ k, W.frozen? ⟨b, k, none⟩ = false :=
 ⟨by rw [Lib.cell_of_heap h]; rfl, by rw [Lib.cell_of_heap h]; rfl, by rw [Lib.cell_of_heap h]; rfl, by rw [Lib.cell_of_heap h]; rfl, fun k => Lib.frozen_of_heap h k⟩
/-- lists of nodes are not long -/
inductive FewT : Tree → Prop
 | mk {k : Int} {s : ByteArray} {a : Int} {l : List Tree} : l.length ≤ 100000 → (∀ i (h : i < l.length), FewT l[i]) → FewT (.mk k s a l)
theorem FewT.parts {k : Int} {s : ByteArray} {a : Int} {l : List Tree} (h : FewT (.mk k s a l)) : l.length ≤ 100000 ∧ ∀ i (h : i < l.length), FewT l[i] := by cases h with | mk h1 h2 => exact ⟨h1, h2⟩
theorem SBx.ret {w : World} {q : Raw} {k : Int} {s : ByteArray} {p' : Option Addr} {n' c' : Nat} {ts : List Tree} {W : World} (h : SBx w q k s p' n' c' ts W) :
  ((((W.setCell ⟨w.heap.size + 1, 0, none⟩ (.int .i64 k)).setCell ⟨w.heap.size + 1, 1, none⟩ (.string s)).setCell ⟨w.heap.size + 1, 2, none⟩ (.int .i64 0)).setCell ⟨w.heap.size + 1, 3, none⟩ (.slice p' n' c')).heap[w.heap.size + 1]? = some (.cells (ndC ⟨k, s, 0, p', n', c'⟩) 37 (0, 0)) ∧
  IsT (fun b => w.heap.size ≤ b) ((((W.setCell ⟨w.heap.size + 1, 0, none⟩ (.int .i64 k)).setCell ⟨w.heap.size + 1, 1, none⟩ (.string s)).setCell ⟨w.heap.size + 1, 2, none⟩ (.int .i64 0)).setCell ⟨w.heap.size + 1, 3, none⟩ (.slice p' n' c')) ⟨k, s, 0, p', n', c'⟩ (.mk k s 0 ts) ∧
  Below w.heap.size w ((((W.setCell ⟨w.heap.size + 1, 0, none⟩ (.int .i64 k)).setCell ⟨w.heap.size + 1, 1, none⟩ (.string s)).setCell ⟨w.heap.size + 1, 2, none⟩ (.int .i64 0)).setCell ⟨w.heap.size + 1, 3, none⟩ (.slice p' n' c')) := by
 have key : ∀ (W : World) (k : Nat) (v : Value), But (fun a => a.block = w.heap.size + 1) W (W.setCell ⟨w.heap.size + 1, k, none⟩ v) := fun W k v => But.setCell W _ v rfl
 have bb := (((key W 0 (.int .i64 k)).trans (key _ 1 (.string s))).trans (key _ 2 (.int .i64 0))).trans (key _ 3 (.slice p' n' c'))
 refine ⟨heap_setCell_same _ _ _ _ _ _ (heap_setCell_same _ _ _ _ _ _ (heap_setCell_same _ _ _ _ _ _ (heap_setCell_same _ _ _ _ _ _ h.zb))), ((IsT.node k s 0 h.nd.list).but bb (fun a e q => by have e' : a.block = w.heap.size + 1 := e; have q' : w.heap.size + 3 ≤ a.block := q; omega)).mono (fun b hb => by have hb' : w.heap.size + 3 ≤ b := hb; omega), h.be.trans (But.below bb h.be.size (fun a e => by have e' : a.block = w.heap.size + 1 := e; omega))⟩
theorem SBx.v3 {w : World} {q : Raw} {k : Int} {s : ByteArray} {p' : Option Addr} {n' c' : Nat} {ts : List Tree} {wr W : World} (h : SBx w q k s p' n' c' ts wr) (hI : InvY w (Value.slice p' n' c').ownBlock wr W) : W.cell? ⟨w.heap.size + 2, 3, none⟩ = some (.slice p' n' c') :=
 (cells_of (by rw [hI.block _ (lt_heap h.vb) (fun e => by have := (h.nd.own _ e).1; omega)]; exact h.vb)).2.2.2.1
theorem SBx.fz {w : World} {q : Raw} {k : Int} {s : ByteArray} {p' : Option Addr} {n' c' : Nat} {ts : List Tree} {wr W : World} (h : SBx w q k s p' n' c' ts wr) (hI : InvY w (Value.slice p' n' c').ownBlock wr W) : ∀ j, W.frozen? ⟨w.heap.size + 2, j, none⟩ = false :=
 (cells_of (q := ⟨k, s, 0, p', n', c'⟩) (by rw [hI.block _ (lt_heap h.vb) (fun e => by have := (h.nd.own _ e).1; omega)]; exact h.vb)).2.2.2.2
theorem SBx.p3 {w : World} {q : Raw} {k : Int} {s : ByteArray} {p' : Option Addr} {n' c' : Nat} {ts : List Tree} {wr W : World} (h : SBx w q k s p' n' c' ts wr) (hI : InvY w (Value.slice p' n' c').ownBlock wr W) : W.cell? ⟨w.heap.size, 3, none⟩ = some (.slice q.p q.n q.cap) :=
 (cells_of (by rw [hI.block _ (lt_heap h.pb) (fun e => by have := (h.nd.own _ e).1; omega)]; exact h.pb)).2.2.2.1
set_option maxRecDepth 100000 in
set_option maxHeartbeats 4000000 in
theorem rStrip_any {A : Nat → Prop} (k a : Int) (s : ByteArray) (p : Option Addr) (n c : Nat) (l : List Tree) (w : World) (few : l.length ≤ 100000) (h : IsTs A w (.slice p n c) l)
  (hS : ∀ j (hj : j < l.length) q w1, IsT A w1 q l[j] → Calls Tryz.prog 10 #[.agg (ndC q)] w1 fun e w' => ∃ q', e = .returned (.agg (ndC q')) ∧ IsT (fun b => w1.heap.size ≤ b) w' q' (strip l[j]) ∧ Below w1.heap.size w1 w') :
  Calls Tryz.prog 10 #[.agg (ndC ⟨k, s, a, p, n, c⟩)] w fun e w' => ∃ q', e = .returned (.agg (ndC q')) ∧ IsT (fun b => w.heap.size ≤ b) w' q' (.mk k s 0 (l.map strip)) ∧ Below w.heap.size w w' := by
 have e1 := h.at_.1
 subst e1
 have HL := Lib.hid h
 have HSS := Lib.hid hS
 have hS0 := SBx.first w ⟨k, s, a, p, l.length, c⟩ k s
 have HS0 := Lib.hid hS0
 have hp1 := cells_of (W := w.alloc (.cells (ndC ⟨k, s, a, p, l.length, c⟩) 37)) (heap_alloc_new w _)
 obtain ⟨m0, m1, m2, m3, -⟩ := hp1
 clear h hS hS0
 dsimp only at m0 m1 m2 m3
 unfold ndC at m0 m1 m2 m3 HS0
 unfold ndC
 go_enter Tryz.func10, Tryz.ntmps10
 go_wp2_with fail
 generalize ((w.alloc (.cells #[.int .i64 k, .string s, .int .i64 a, .slice p l.length c] 37)).alloc (.cells #[.int .i64 0, .string ⟨#[]⟩, .int .i64 0, .slice none 0 0] 37)).alloc (.cells #[.int .i64 k, .string s, .int .i64 0, .slice none 0 0] 37) = w3 at *
 clear m0 m1 m2 m3
 go_loopw [4] (fun v wr => ∃ (j p' n' c' : _) (ts : List Tree), v = .int .i64 ((j : Nat) : Int) ∧ j ≤ l.length ∧ ts = (l.take j).map strip ∧ Hid (SBx w ⟨k, s, a, p, l.length, c⟩ k s p' n' c' ts wr)) (fun v _ => l.length - (intOf v).toNat)
 case atStart => exact ⟨0, none, 0, 0, [], rfl, Nat.zero_le _, by simp, HS0.out⟩
 case round =>
  clear HS0
  obtain ⟨j, p', n', c', ts, rfl, hj, hts, HB⟩ := hrel
  have hlt0 : ts.length = j := by rw [hts]; simp; omega
  have HTS := Lib.hid hts
  clear hts
  obtain ⟨a0, a1, a2, a3, -⟩ := cells_of HB.out.pb
  obtain ⟨v0, v1, v2, v3, fz⟩ := cells_of HB.out.vb
  dsimp only at a0 a1 a2 a3 v0 v1 v2 v3
  by_cases hlt : j < l.length
  ·have hlt' : (j : Int) < (l.length : Int) := by omega
   obtain ⟨b1, off1, q1, rfl, ht1, x0, x1, x2, x3⟩ := HL.out.at_.2 j hlt
   obtain ⟨u1, hu1⟩ : ∃ u1, strip l[j] = u1 := ⟨_, rfl⟩
   have HC := Lib.hid (fun w1 h1 => HSS.out j hlt q1 w1 h1)
   rw [hu1] at HC
   have HU1 := Lib.hid hu1
   clear hu1
   have HT1 := Lib.hid ht1
   have HX := Lib.hid (And.intro x0 (And.intro x1 (And.intro x2 x3)))
   clear ht1 x0 x1 x2 x3
   go_wp2_with fail
   have HO : Hid (∀ b, (Value.slice p' n' c').ownBlock = some b → w.heap.size + 3 ≤ b ∧ b < wr.heap.size) := HB.out.nd.own
   have HV2 : Hid (w.heap.size + 2 < wr.heap.size) := lt_heap HB.out.vb
   have HGA : Hid (∀ b, wr.heap.size ≤ b → (Value.slice p' n' c').ownBlock ≠ some b) := fun b hb e => by have := (HO.out b e).2; omega
   apply wp_region_many 11 (Sy (Value.slice p' n' c').ownBlock 9) (InvY w (Value.slice p' n' c').ownBlock wr) (F0y (w.heap.size + 3) (.slice p' n' c') ts 9)
   case hIS => exact fun i x y hs hi => hi.step i hs (fun b e => by have := HO.out b e; omega)
   case hk0 => exact F0y.keeps
   case hm => kernel_rfl
   case hB => kernel_rfl
   case h0 => exact InvY.start HB.out.be
   case h1 => exact F0y.start HB.out.nd
   simp only [List.take_succ_cons, List.take_zero, List.drop_succ_cons, List.drop_zero]
   apply wpMany_cons (t := tvIs (.pointer (some ⟨w.heap.size + 2, 3, none⟩))) (tvIs_goodS _ _)
   case h1 =>
    intro W hI hl
    unfold oneAt
    go_simp
    exact sy_is (by decide)
   intro _
   rw [tvIs_f]
   go_simp
   apply wpMany_cons (t := tvIs (.slice p' n' c')) (tvIs_goodS _ _)
   case h1 =>
    intro W hI hl
    have y3 := HB.out.v3 hI
    unfold oneAt
    go_simp
    exact sy_is (by decide)
   intro _
   rw [tvIs_f]
   go_simp
   apply wpMany_cons (t := tvIs (.pointer (some ⟨w.heap.size, 3, none⟩))) (tvIs_goodS _ _)
   case h1 =>
    intro W hI hl
    unfold oneAt
    go_simp
    exact sy_is (by decide)
   intro _
   rw [tvIs_f]
   go_simp
   apply wpMany_cons (t := tvIs (.slice (some ⟨b1, off1, none⟩) l.length c)) (tvIs_goodS _ _)
   case h1 =>
    intro W hI hl
    have y3 := HB.out.p3 hI
    unfold oneAt
    go_simp
    exact sy_is (by decide)
   intro _
   rw [tvIs_f]
   go_simp
   apply wpMany_cons (t := tvIs (.int .i64 (j : Int))) (tvIs_goodS _ _)
   case h1 =>
    intro W hI hl
    unfold oneAt
    go_simp
    exact sy_is (by decide)
   intro _
   rw [tvIs_f]
   go_simp
   apply wpMany_cons (t := tvIs (.pointer (some ⟨b1, off1 + j * 4, none⟩))) (tvIs_goodS _ _)
   case h1 =>
    intro W hI hl
    unfold oneAt
    go_simp
    exact sy_is (by decide)
   intro _
   rw [tvIs_f]
   go_simp
   apply wpMany_cons (t := tvIs (.agg #[.int .i64 q1.kind, .string q1.text, .int .i64 q1.at_, .slice q1.p q1.n q1.cap])) (tvIs_goodS _ _)
   case h1 =>
    intro W hI hl
    have y0 := below_cell hI.be HX.out.1
    have y1 := below_cell hI.be HX.out.2.1
    have y2 := below_cell hI.be HX.out.2.2.1
    have y3 := below_cell hI.be HX.out.2.2.2
    unfold oneAt
    go_simp
    exact sy_is (by decide)
   intro _
   rw [tvIs_f]
   go_simp
   apply wpMany_cons (t := tyNodeA (fun b => wr.heap.size ≤ b) (fun u => u = u1)) (tyNodeY_good HGA.out)
   case h1 =>
    intro W hI hl
    have hc := HC.out W (HT1.out.later hI.be)
    unfold oneAt
    go_simp
    exact sy_call hI (by decide) (fun b hb => hb) hc
   rintro ⟨q5, t5⟩
   rw [tyNodeA_f]
   unfold ndC
   go_simp
   apply wpMany_cons (t := tyRowA (fun b => wr.heap.size ≤ b) 1 (fun l2 => l2 = [u1])) (tyRowY_good HGA.out)
   case h1 =>
    intro W hI hl
    have h5 : IsT (fun b => wr.heap.size ≤ b) W q5 t5 ∧ t5 = u1 := hl.2 ⟨7, .data⟩ (by simp) rfl
    unfold oneAt
    go_simp
    exact sy_row [q5] [t5] hI (fun b hb => hb) (by decide) rfl rfl rfl (by decide) (by decide) (fun i a b => match i, a, b with | 0, _, _ => h5.1 | i + 1, c, _ => absurd c (by simp)) (by rw [h5.2])
   rintro ⟨g6, l6⟩
   rw [tyRowA_f]
   go_simp
   apply wpMany_cons (t := tyList (w.heap.size + 3) (Value.slice p' n' c').ownBlock wr (fun l2 => l2 = ts ++ [u1])) tyListY_good
   case h1 =>
    intro W hI hl
    have hN : Nodes (w.heap.size + 3) W (.slice p' n' c') ts := hl.1 rfl
    have h6 : IsTs (fun b => wr.heap.size ≤ b) W (.slice (some ⟨g6, 0, none⟩) 1 1) l6 ∧ l6 = [u1] := hl.2 ⟨8, .data⟩ (by simp) rfl
    exact sy_push rfl (.tmp 18) (.tmp 25) rfl rfl rfl hI hN (by have := HV2.out; omega) (fun b e => (HO.out b e).2) (A := (fun b => wr.heap.size ≤ b)) (fun b hb => ⟨by have := HV2.out; omega, fun e => by have := (HO.out b e).2; omega⟩) h6.1 (by omega) (by rw [h6.2])
   rintro ⟨v7, l7⟩
   rw [tyList_f]
   go_simp
   apply wpMany_cons (t := tvIs (.pointer (some ⟨w.heap.size + 2, 3, none⟩))) (tvIs_goodS _ _)
   case h1 =>
    intro W hI hl
    unfold oneAt
    go_simp
    exact sy_is (by decide)
   intro _
   rw [tvIs_f]
   go_simp
   apply wpMany_nil (Ts := [])
   intro W hI hFa
   have h9 : Nodes (w.heap.size + 3) W v7 l7 ∧ l7 = ts ++ [u1] ∧ _ := hFa 9
   obtain ⟨h9, rfl, -⟩ := h9
   obtain ⟨p7, c7, rfl, -, -⟩ := h9.slice
   have hts9 : ts ++ [u1] = (l.take (j + 1)).map strip := by rw [HTS.out, List.take_add_one, List.map_append, List.getElem?_eq_getElem hlt, ← HU1.out]; rfl
   obtain ⟨n7, e7⟩ : ∃ n7, (ts ++ [u1]).length = n7 := ⟨_, rfl⟩
   rw [e7] at h9 ⊢
   rw [hts9] at h9
   have HB9 := Lib.hid (HB.out.store hI h9)
   have y3 := HB.out.v3 hI
   have fz2 := HB.out.fz hI
   clear hI hFa h9 HO HV2 HGA e7
   go_wp2_with fail
   go_roundw
   case rel => exact ⟨j + 1, _, _, _, _, by go_num, by omega, rfl, HB9.out⟩
   case measure => simp [intOf]; omega
  ·have hlt' : ¬ ((j : Int) < (l.length : Int)) := by omega
   have hje : j = l.length := by omega
   have htl : ts = l.map strip := by rw [HTS.out, hje, List.take_length]
   have hnd := HB.out.nd.list
   rw [htl] at hnd
   have HND := Lib.hid hnd
   have HZ := Lib.hid HB.out.zb
   have HBE := Lib.hid HB.out.be
   obtain ⟨d0, d1, d2, d3, fd⟩ := cells_of (q := ⟨0, ⟨#[]⟩, 0, none, 0, 0⟩) HB.out.zb
   have hrt := HB.out.ret
   rw [htl] at hrt
   have HRT := Lib.hid hrt
   clear hrt
   clear hnd htl hje
   go_wp2_with fail
   obtain ⟨hz, hist, hbe⟩ := HRT.out
   exact bodyPost_ret (results_cellT rfl _ _ _ ⟨w.heap.size + 1, 0, none⟩ _ rfl (load_node _ _ ⟨k, s, 0, p', n', c'⟩ hz)) rfl ⟨⟨k, s, 0, p', n', c'⟩, rfl, hist, hbe⟩
theorem rStripN_any {A : Nat → Prop} : ∀ (N : Nat) (t : Tree), SizeOf.sizeOf t < N → FewT t → ∀ (q : Raw) (w : World), IsT A w q t → Calls Tryz.prog 10 #[.agg (ndC q)] w fun e w' => ∃ q', e = .returned (.agg (ndC q')) ∧ IsT (fun b => w.heap.size ≤ b) w' q' (strip t) ∧ Below w.heap.size w w'
 | 0, t, hN, _, _, _, _ => absurd hN (by omega)
 | N + 1, .mk k s a l, hN, hf, ⟨k1, s1, a1, p1, n1, c1⟩, w, h1 => by
  obtain ⟨e1, e2, e3, g1⟩ := h1.parts
  have e1' : k1 = k := e1
  have e2' : s1 = s := e2
  have e3' : a1 = a := e3
  subst e1' e2' e3'
  have g1' : IsTs A w (.slice p1 n1 c1) l := g1
  obtain ⟨few, hfl⟩ := hf.parts
  rw [strip_mk]
  exact rStrip_any _ _ _ p1 n1 c1 l w few g1' fun j hj r1 w2 i1 => rStripN_any N l[j] (by
   have h3 := List.sizeOf_lt_of_mem (List.getElem_mem hj)
   simp only [Tree.mk.sizeOf_spec] at hN
   omega) (hfl j hj) r1 w2 i1
/-- the tree of a node without places -/
theorem rStripT_any {A : Nat → Prop} (t : Tree) (hf : FewT t) (q : Raw) (w : World) (h : IsT A w q t) : Calls Tryz.prog 10 #[.agg (ndC q)] w fun e w' => ∃ q', e = .returned (.agg (ndC q')) ∧ IsT (fun b => w.heap.size ≤ b) w' q' (strip t) ∧ Below w.heap.size w w' := rStripN_any _ t (Nat.lt_succ_self _) hf q w h
end Go.Proofs.YtheigpiffdabnaaGreat
namespace Go.Proofs.YtheigpiffdabnaaGreat
open Go Go.RowKit
/-- all that a reader gives -/
def Ret {α : Type} (P : α → Prop) (p : PM α) : Prop := ∀ i x j, p i = .ok (x, j) → P x
/-- trees of this kind, so many at most -/
def FL (m : Nat) (l : List Tree) : Prop := l.length ≤ m ∧ ∀ i (h : i < l.length), FewT l[i]
theorem FL.nil (m : Nat) : FL m [] := ⟨Nat.zero_le _, fun i h => absurd h (by simp)⟩
theorem FL.cons {m : Nat} {t : Tree} {l : List Tree} (h : FewT t) (hl : FL m l) : FL (m + 1) (t :: l) := by
 refine ⟨by simp; exact hl.1, fun i hi => ?_⟩
 cases i with
 | zero => exact h
 | succ i => exact hl.2 i (by simpa using hi)
theorem FL.append {m n : Nat} {l k : List Tree} (hl : FL m l) (hk : FL n k) : FL (m + n) (l ++ k) := by
 refine ⟨by rw [List.length_append]; have := hl.1; have := hk.1; omega, fun i hi => ?_⟩
 by_cases h : i < l.length
 ·rw [List.getElem_append_left h]; exact hl.2 i h
 ·rw [List.getElem_append_right (by omega)]; exact hk.2 _ _
theorem FL.mono {m n : Nat} {l : List Tree} (h : FL m l) (hm : m ≤ n) : FL n l := ⟨Nat.le_trans h.1 hm, h.2⟩
theorem FewT.of {k : Int} {s : ByteArray} {a : Int} {m : Nat} {l : List Tree} (h : FL m l) (hm : m ≤ 100000) : FewT (.mk k s a l) := .mk (Nat.le_trans h.1 hm) h.2
theorem FL.one {t : Tree} (h : FewT t) : FL 1 [t] := .cons h (.nil 0)
theorem FL.two {t u : Tree} (h : FewT t) (h2 : FewT u) : FL 2 [t, u] := .cons h (.one h2)
theorem ret_any {α : Type} (p : PM α) : Ret (fun _ => True) p := fun _ _ _ _ => trivial
theorem ret_bind {α β : Type} {P : α → Prop} {Q : β → Prop} {p : PM α} {f : α → PM β} (hp : Ret P p) (hf : ∀ x, P x → Ret Q (f x)) : Ret Q (bindM p f) := fun i y j h => by
 obtain ⟨x, m, h1, h2⟩ := bind_inv h
 exact hf x (hp i x m h1) m y j h2
theorem ret_b {α β : Type} {Q : β → Prop} {p : PM α} {f : α → PM β} (hf : ∀ x, Ret Q (f x)) : Ret Q (bindM p f) := ret_bind (ret_any p) fun x _ => hf x
theorem ret_pure {α : Type} {P : α → Prop} {x : α} (h : P x) : Ret P (pureM x) := fun i y j e => by
 have e' : Except.ok (ε := Nat) (x, i) = .ok (y, j) := e
 simp only [Except.ok.injEq, Prod.mk.injEq] at e'
 rw [← e'.1]; exact h
theorem ret_fail {α : Type} {P : α → Prop} : Ret P (failM : PM α) := fun i x j e => by cases e
theorem ret_nd {k : Int} {s : ByteArray} {a : Int} {m : Nat} {l : List Tree} (h : FL m l) (hm : m ≤ 100000 := by omega) : Ret FewT (ndM k s a l) := ret_pure (.of h hm)
theorem ret_if {α : Type} {P : α → Prop} {c : Prop} [Decidable c] {p q : PM α} (hp : Ret P p) (hq : Ret P q) : Ret P (if c then p else q) := by split <;> assumption
variable {r : Rdr}
theorem ret_list {sg : ByteArray} {part : PM Tree} (hp : Ret FewT part) : ∀ f, Ret (FL f) (listP r sg part f)
 | 0 => fun i x j e => by cases e
 | f + 1 => fun i x j e => by
  have e' : (match part i with | .error k => .error k | .ok (t, j) => if isMark r j sg = true then (match listP r sg part f (j + 1) with | .error k => .error k | .ok (ts, m) => .ok (t :: ts, m)) else .ok ([t], j) : Except Nat (List Tree × Nat)) = .ok (x, j) := e
  clear e
  cases hpi : part i with
  | error k => rw [hpi] at e'; cases e'
  | ok z =>
   obtain ⟨t, m⟩ := z
   rw [hpi] at e'
   have ht := hp i t m hpi
   by_cases hm : isMark r m sg = true
   ·simp only [if_pos hm] at e'
    cases hl : listP r sg part f (m + 1) with
    | error k => rw [hl] at e'; cases e'
    | ok y =>
     obtain ⟨us, j2⟩ := y
     rw [hl] at e'
     simp only [Except.ok.injEq, Prod.mk.injEq] at e'
     obtain ⟨rfl, rfl⟩ := e'
     exact .cons ht (ret_list hp f (m + 1) us j2 hl)
   ·simp only [if_neg hm, Except.ok.injEq, Prod.mk.injEq] at e'
    obtain ⟨rfl, rfl⟩ := e'
    exact (FL.one ht).mono (by omega)
theorem ret_upTo {en : ByteArray} {part : PM Tree} (hp : Ret FewT part) : Ret (FL (r.L.length + 1)) (upToP r en part) := fun i x j e => by
 unfold upToP at e
 by_cases hm : isMark r i en = true
 ·rw [if_pos hm] at e
  simp only [Except.ok.injEq, Prod.mk.injEq] at e
  rw [← e.1]; exact .nil _
 ·rw [if_neg hm] at e
  cases hl : listP r ⟨#[44]⟩ part (r.L.length + 1) i with
  | error k => rw [hl] at e; cases e
  | ok y =>
   obtain ⟨us, m⟩ := y
   rw [hl] at e
   simp only at e
   split at e
   ·simp only [Except.ok.injEq, Prod.mk.injEq] at e
    rw [← e.1]; exact ret_list hp _ i us m hl
   ·cases e
theorem ret_chain {part : PM Tree} {V : List ByteArray} (hp : Ret FewT part) : ∀ f t, FewT t → Ret FewT (chainM r part V f t)
 | 0, t, h => fun i x j e => by cases e
 | f + 1, t, h => ret_b fun sg => by
  cases sg.toList.isEmpty
  ·exact ret_bind hp fun u hu => ret_chain hp f _ (.of (.two h hu) (by omega))
  ·exact ret_pure h
theorem ret_chainP {part : PM Tree} {V : List ByteArray} (hp : Ret FewT part) : Ret FewT (chainP r part V) := ret_bind hp fun t h => ret_chain hp _ t h
theorem ret_arguments {E : PM Tree} (hE : Ret FewT E) : Ret (FL (r.L.length + 1)) (argumentsM r E) := ret_b fun _ => ret_upTo hE
section
variable (few : r.L.length ≤ 20001)
include few
theorem ret_argnd {E : PM Tree} (hE : Ret FewT E) (k : Int) (s : ByteArray) (a : Int) : Ret FewT (bindM (argumentsM r E) fun l => ndM k s a l) := ret_bind (ret_arguments hE) fun l hl => ret_nd hl
theorem ret_named {E : PM Tree} (hE : Ret FewT E) : Ret FewT (namedM r E) := ret_b fun a => ret_b fun nm => ret_b fun b => by
 cases b
 ·exact ret_b fun c => by
   cases c
   ·exact ret_nd (.nil 0)
   ·exact ret_argnd few hE _ _ _
 ·exact ret_argnd few hE _ _ _
theorem ret_construction {E : PM Tree} (hE : Ret FewT E) : Ret FewT (constructionM r E) := ret_b fun a => ret_b fun _ => ret_b fun nm => ret_argnd few hE _ _ _
theorem ret_stmts {E Bk : PM Tree} (hS : Ret FewT (stmtM r E Bk)) : ∀ f m l, FL m l → Ret (FL (m + f)) (stmtsM r E Bk f l)
 | 0, m, l, h => fun i x j e => by cases e
 | f + 1, m, l, h => ret_b fun b => by
  cases b
  ·exact ret_bind hS fun u hu => by
    have := ret_stmts hS f (m + 1) (l ++ [u]) (h.append (.one hu))
    rw [show m + (f + 1) = m + 1 + f by omega]
    exact this
  ·exact ret_pure (h.mono (by omega))
end
theorem ret_paren {E : PM Tree} (hE : Ret FewT E) : Ret FewT (parenM r E) := ret_b fun _ => ret_bind hE fun t ht => ret_b fun _ => ret_pure ht
theorem ret_choice {E Bk : PM Tree} (hE : Ret FewT E) (hB : Ret FewT Bk) : Ret FewT (choiceM r E Bk) := ret_b fun a => ret_b fun _ => ret_bind hE fun c hc => ret_bind hB fun y hy => ret_b fun _ => ret_bind hB fun n hn => ret_nd (.cons hc (.two hy hn))
theorem ret_store {E : PM Tree} (hE : Ret FewT E) (k : Int) (a : Int) : Ret FewT (storeM r E k a) := ret_b fun nm => ret_b fun _ => ret_bind hE fun v hv => ret_b fun _ => ret_nd (.one hv)
theorem ret_value {E : PM Tree} (hE : Ret FewT E) : Ret FewT (valueM r E) := ret_bind hE fun v hv => ret_b fun b => by
 cases b
 ·exact ret_b fun _ => ret_nd (.one hv)
 ·exact ret_pure hv
theorem ret_stmt {E Bk : PM Tree} (hE : Ret FewT E) (hB : Ret FewT Bk) : Ret FewT (stmtM r E Bk) := ret_b fun b1 => by
 cases b1
 ·exact ret_b fun b2 => by
   cases b2
   ·exact ret_b fun b3 => by
     cases b3
     ·exact ret_b fun x => by
       cases decide (x.kind = 1)
       ·exact ret_value hE
       ·exact ret_b fun y => by
         cases isB y ⟨#[61]⟩
         ·exact ret_value hE
         ·exact ret_b fun a => ret_store hE _ _
     ·exact ret_b fun a => ret_b fun _ => ret_bind hE fun v hv => ret_b fun _ => ret_nd (.one hv)
   ·exact ret_b fun a => ret_b fun _ => ret_bind hE fun c hc => ret_bind hB fun b hb => ret_nd (.two hc hb)
 ·exact ret_b fun a => ret_b fun _ => ret_store hE _ _
section
variable (few : r.L.length ≤ 20001)
include few
theorem ret_block {E Bk : PM Tree} (hE : Ret FewT E) (hB : Ret FewT Bk) : Ret FewT (blockM r E Bk) := ret_b fun a => ret_b fun _ => ret_bind (ret_stmts few (ret_stmt hE hB) (r.L.length + 1) 0 [] (.nil 0)) fun l hl => ret_b fun x => by
 by_cases hn : noValue l = true
 ·rw [if_pos hn]; exact ret_nd (hl.append (.one (.of (.nil 0) (by omega))))
 ·rw [if_neg hn]; exact ret_nd hl
theorem ret_primary {E Bk : PM Tree} (hE : Ret FewT E) (hB : Ret FewT Bk) : Ret FewT (primaryM r E Bk) := ret_b fun x =>
 ret_if (ret_b fun _ => ret_nd (.nil 0)) (ret_if (ret_named few hE) (ret_if (ret_b fun _ => ret_nd (.nil 0)) (ret_if (ret_construction few hE) (ret_if (ret_paren hE) (ret_if (ret_choice hE hB) (ret_if (ret_block few hE hB) ret_fail))))))
theorem ret_dots : ∀ f t, FewT t → Ret FewT (dotsM r f t)
 | 0, t, h => fun i x j e => by cases e
 | f + 1, t, h => ret_b fun b => by
  cases b
  ·exact ret_pure h
  ·exact ret_b fun nm => ret_dots f _ (.of (.one h) (by omega))
theorem ret_unary {E Bk U : PM Tree} (hE : Ret FewT E) (hB : Ret FewT Bk) (hU : Ret FewT U) : Ret FewT (unaryM r E Bk U) := ret_b fun a => ret_b fun sg => by
 cases sg.toList.isEmpty
 ·exact ret_bind hU fun t h => ret_nd (.one h)
 ·exact ret_bind (ret_primary few hE hB) fun t h => ret_dots few _ t h
theorem ret_rel {E Bk U : PM Tree} (hE : Ret FewT E) (hB : Ret FewT Bk) (hU : Ret FewT U) : Ret FewT (relM r E Bk U) := by
 have hs : Ret FewT (sumM r E Bk U) := ret_chainP (ret_chainP (ret_unary few hE hB hU))
 exact ret_bind hs fun t h => ret_b fun sg => by
  cases sg.toList.isEmpty
  ·exact ret_bind hs fun u hu => ret_pure (.of (.two h hu) (by omega))
  ·exact ret_pure h
theorem ret_sub : ∀ d, Ret FewT (subL r d).E ∧ Ret FewT (subL r d).B ∧ Ret FewT (subL r d).U
 | 0 => ⟨ret_fail, ret_fail, ret_fail⟩
 | d + 1 => by
  obtain ⟨h1, h2, h3⟩ := ret_sub d
  exact ⟨ret_chainP (ret_chainP (ret_rel few h1 h2 h3)), ret_block few h1 h2, ret_unary few h1 h2 h3⟩
theorem ret_nameP : Ret FewT (nameP r) := by
 rw [nameP_eq]
 exact ret_b fun a => ret_b fun nm => ret_nd (.nil 0)
theorem ret_noParams : Ret FewT (noParamsP r) := fun i x j e => by
 have e' : Except.ok (ε := Nat) (Tree.mk 10 ⟨#[]⟩ (r.L.getD i tok0).at_ [], i) = .ok (x, j) := e
 simp only [Except.ok.injEq, Prod.mk.injEq] at e'
 rw [← e'.1]; exact .of (.nil 0) (by omega)
theorem ret_arg {T : PM Tree} (hT : Ret FewT T) : Ret FewT (argP r T) := by
 rw [argP_eq]
 exact ret_b fun a => ret_b fun nm => ret_b fun _ => ret_bind hT fun t ht => ret_nd (.one ht)
theorem ret_result {T : PM Tree} (hT : Ret FewT T) : Ret FewT (resultP r T) := by
 rw [← resultR_eq]
 exact ret_b fun b => by
  cases b
  ·exact ret_b fun a => ret_nd (.nil 0)
  ·exact hT
theorem ret_args {be en : ByteArray} {part : PM Tree} (hp : Ret FewT part) : Ret FewT (argsP r be en part) := by
 rw [argsP_eq]
 exact ret_b fun _ => ret_b fun a => ret_bind (ret_upTo hp) fun ts h => ret_nd h
theorem ret_param : Ret FewT (paramP r) := by
 rw [paramP_eq]
 exact ret_b fun a => ret_b fun nm => ret_b fun b => by
  cases b
  ·exact ret_nd (.nil 0)
  ·exact ret_bind (ret_nameP few) fun t ht => ret_nd (.one ht)
theorem ret_params : Ret FewT (paramsP r) := by
 rw [paramsP_eq]
 exact ret_b fun a => ret_b fun b => by
  cases b
  ·exact ret_nd (.nil 0)
  ·exact ret_bind (ret_list (ret_param few) _) fun ts h => ret_b fun _ => ret_nd h
theorem ret_supers : Ret FewT (supersP r) := by
 rw [supersP_eq]
 exact ret_b fun a => ret_b fun b => by
  cases b
  ·exact ret_nd (.nil 0)
  ·exact ret_b fun a => ret_bind (ret_list (ret_nameP few) _) fun ts h => ret_nd h
theorem ret_typ (s : Bool) : ∀ d, Ret FewT (typL r s d)
 | 0 => fun i x j e => by cases e
 | d + 1 => by
  rw [typL_eq]
  refine ret_b fun x => ret_if (ret_b fun _ => ret_nd (.nil 0)) (ret_if (ret_b fun _ => ret_nd (.nil 0)) ?_)
  rw [typTail_eq]
  exact ret_b fun a => ret_b fun nm => ret_b fun b => by
   cases b
   ·exact ret_nd (.nil 0)
   ·exact ret_bind (ret_list (ret_typ s d) _) fun ts h => ret_b fun _ => ret_nd h
theorem ret_all {en : ByteArray} {part : PM Tree} (hp : Ret FewT part) : ∀ f m l, FL m l → Ret (FL (m + f)) (allM r en part f l)
 | 0, m, l, h => fun i x j e => by cases e
 | f + 1, m, l, h => ret_b fun b => by
  cases b
  ·exact ret_bind hp fun u hu => by
    have := ret_all (en := en) hp f (m + 1) (l ++ [u]) (h.append (.one hu))
    rw [show m + (f + 1) = m + 1 + f by omega]
    exact this
  ·exact ret_pure (h.mono (by omega))
theorem ret_allP {en : ByteArray} {part : PM Tree} (hp : Ret FewT part) : Ret (FL (0 + (r.L.length + 1))) (allP r en part) := ret_all few (en := en) hp _ 0 [] (.nil 0)
theorem ret_function {Ps T Bk : PM Tree} (hP : Ret FewT Ps) (hT : Ret FewT T) (hB : Ret FewT Bk) : Ret FewT (functionM r Ps T Bk) := ret_b fun a => ret_b fun _ => ret_b fun nm => ret_bind hP fun p hp => ret_bind (ret_args few (ret_arg few hT)) fun q hq => ret_bind (ret_result few hT) fun o ho => ret_bind hB fun b hb => ret_nd (.cons hp (.cons hq (.two ho hb)))
theorem ret_sig {T : PM Tree} (hT : Ret FewT T) : Ret FewT (sigM r T) := ret_b fun a => ret_b fun _ => ret_b fun nm => ret_bind (ret_args few (ret_arg few hT)) fun q hq => ret_bind (ret_result few hT) fun o ho => ret_b fun _ => ret_nd (.two hq ho)
/-- the lists of an item's tree are not long -/
theorem ret_itemT : Ret FewT (itemT r) := by
 obtain ⟨h1, h2, h3⟩ := ret_sub few 60
 have t0 := ret_typ few false 60
 have t1 := ret_typ few true 60
 unfold itemT itemM
 refine ret_b fun x => ret_if ?_ (ret_if ?_ (ret_if ?_ (ret_if ?_ (ret_if ?_ (ret_if ?_ (ret_if ?_ (ret_if ?_ ret_fail)))))))
 ·rw [← useR_eq]; exact ret_b fun a => ret_b fun _ => ret_b fun nm => ret_b fun _ => ret_nd (.nil 0)
 ·rw [← pubR_eq]; exact ret_b fun a => ret_b fun _ => ret_b fun _ => ret_b fun nm => ret_b fun _ => ret_nd (.nil 0)
 ·exact ret_b fun a => ret_b fun _ => ret_b fun nm => ret_b fun _ => ret_bind t0 fun o ho => ret_b fun _ => ret_bind h1 fun v hv => ret_b fun _ => ret_nd (.two ho hv)
 ·exact ret_function few (ret_params few) t0 h2
 ·exact ret_b fun a => ret_b fun _ => ret_b fun nm => ret_bind (ret_params few) fun p hp => ret_bind (ret_args few (ret_arg few t0)) fun q hq => ret_nd (.two hp hq)
 ·exact ret_b fun a => ret_b fun _ => ret_b fun nm => ret_bind (ret_supers few) fun u hu => ret_b fun _ => ret_bind (ret_allP few (ret_sig few t1)) fun l hl => ret_nd (.cons hu hl)
 ·exact ret_b fun a => ret_b fun _ => ret_bind (ret_params few) fun p hp => ret_b fun nm => ret_b fun _ => ret_bind t0 fun t ht => ret_b fun _ => ret_bind (ret_allP few (ret_function few (ret_noParams few) t0 h2)) fun l hl => ret_nd (.cons hp (.cons ht hl))
 ·exact ret_b fun a => ret_b fun _ => ret_b fun nm => ret_bind (ret_args few (ret_nameP few)) fun q hq => ret_b fun _ => ret_bind h1 fun v hv => ret_b fun _ => ret_nd (.two hq hv)
end
/-- the items of a text -/
theorem modM_few {L : List Lx.Tok} {p : PM Tree} (hp : Ret FewT p) : ∀ (f k : Nat) (ts : List Tree) (es : List Int) (z : List Tree × List Int), (∀ i (h : i < ts.length), FewT ts[i]) → modM L p f k ts es = some z → ∀ i (h : i < z.1.length), FewT z.1[i]
 | 0, k, ts, es, z, ht, h => by cases h
 | f + 1, k, ts, es, z, ht, h => by
  unfold modM at h
  by_cases h0 : (L.getD k tok0).kind = 0
  ·rw [if_pos h0] at h
   simp only [Option.some.injEq] at h
   subst h
   exact ht
  ·rw [if_neg h0] at h
   cases hq : p k with
   | ok y =>
    obtain ⟨t, j⟩ := y
    rw [hq] at h
    refine modM_few hp f j (ts ++ [t]) es z (fun i hi => ?_) h
    by_cases hlt : i < ts.length
    ·rw [List.getElem_append_left hlt]; exact ht i hlt
    ·rw [List.getElem_append_right (by omega)]
     simp only [List.getElem_singleton]
     exact hp k t j hq
   | error j =>
    rw [hq] at h
    exact modM_few hp f _ ts _ z ht h
theorem modOf_few {s : ByteArray} {ts : List Tree} {es : List Int} (h : modOf s = some (ts, es)) : ∀ i (h : i < ts.length), FewT ts[i] := by
 unfold modOf modV at h
 by_cases h0 : (tokList s).length = 0
 ·rw [if_pos h0] at h
  simp only [Option.some.injEq, Prod.mk.injEq] at h
  obtain ⟨rfl, -⟩ := h
  exact fun i h => absurd h (by simp)
 ·rw [if_neg h0] at h
  have few : (core (tokList s)).L.length ≤ 20001 := by
   rcases tokList_toks s with e | e
   ·rw [e] at h0; exact absurd rfl h0
   ·exact e.few
  exact modM_few (ret_itemT few) _ _ [] [] (ts, es) (fun i h => absurd h (by simp)) h
end Go.Proofs.YtheigpiffdabnaaGreat
