/-
  LAWS: types (a name and a list of types) as they lie in memory.
-/
import Derived.Test.YthikdkeanndidaaDoorBase
import Derived.Test.YthikdkeanndidaaDoorBut
import Derived.Test.YthikdkeanndidaaDoorLw
import Derived.Deep.RegionWith
import Derived.Test.YthikdkeanndidaaDoorDr
import Derived.Test.YthikdkeanndidaaDoorRelT
namespace Go.Proofs.YthikdkeanndidaaDoor
open Go Go.RowKit
set_option linter.unusedVariables false

theorem SlIs.butN {α : Type} {E : Enc α} {M : Addr → Prop} {w w' : World} {p : Option Addr} {n cap : Nat} {L : List α} (h : SlIs E w (.slice p n cap) L) (hb : ∀ a v, w.cell? a = some v → ¬ M a → w'.cell? a = some v) (hm : ∀ b o i, p = some ⟨b, o, none⟩ → 0 < n → ¬ M ⟨b, i, none⟩) : SlIs E w' (.slice p n cap) L := by
  obtain ⟨hn, h2, h3, h4⟩ := h.lies
  subst hn
  refine ⟨p, cap, rfl, h2, h3, fun h0 => ?_⟩
  obtain ⟨b, off, e, hc⟩ := h4 h0
  exact ⟨b, off, e, fun j v hv => hb _ _ (hc j v hv) (hm b off _ e h0)⟩
/-- a type -/
inductive Tp where
  | mk (name : ByteArray) (args : List Tp)
namespace Tp
def name : Tp → ByteArray | mk s _ => s
def args : Tp → List Tp | mk _ l => l
end Tp
instance : Inhabited Tp := ⟨.mk ByteArray.empty []⟩
/-- a type as it lies: its list is a slice -/
structure Rw where
  name : ByteArray
  p : Option Addr
  n : Nat
  cap : Nat
instance : Inhabited Rw := ⟨⟨ByteArray.empty, none, 0, 0⟩⟩
def Rw.cells (r : Rw) : List Value := [.string r.name, .slice r.p r.n r.cap]
def rwEnc : Enc Rw where
  cells := Rw.cells
  size := 2
  len := fun _ => rfl
  one := fun r v hv => by
    simp only [Rw.cells, List.mem_cons, List.not_mem_nil, or_false] at hv
    rcases hv with rfl | rfl <;> rfl
  pos := by decide
/-- what lies there is this type; all of its lists lie in blocks of A -/
inductive IsP (A : Nat → Prop) (w : World) : Rw → Tp → Prop
  | mk (s : ByteArray) (p : Option Addr) (n cap : Nat) (R : List Rw) (l : List Tp) : SlIs rwEnc w (.slice p n cap) R → (p = none → cap = 0) → (∀ b o, p = some ⟨b, o, none⟩ → 0 < n → A b) → R.length = l.length →
      (∀ i (h1 : i < R.length) (h2 : i < l.length), IsP A w R[i] l[i]) → IsP A w ⟨s, p, n, cap⟩ (.mk s l)
/-- a slice of types -/
def IsPs (A : Nat → Prop) (w : World) (v : Value) (l : List Tp) : Prop := ∃ (p : Option Addr) (n cap : Nat) (R : List Rw), v = .slice p n cap ∧ SlIs rwEnc w (.slice p n cap) R ∧ (p = none → cap = 0) ∧ (∀ b o, p = some ⟨b, o, none⟩ → 0 < n → A b) ∧ R.length = l.length ∧ ∀ i (h1 : i < R.length) (h2 : i < l.length), IsP A w R[i] l[i]
theorem IsP.but {A : Nat → Prop} {M : Addr → Prop} {w w' : World} {r : Rw} {t : Tp} (h : IsP A w r t) (hb : But M w w') (hM : ∀ a, M a → ¬ A a.block) : IsP A w' r t := by
  induction h with
  | mk s p n cap R l hs hp hA hl _ ih => exact .mk s p n cap R l (SlIs.butN hs (fun _ _ hc hm => hb.keep hc hm) (fun b o i e h0 q => hM _ q (hA b o e h0))) hp hA hl ih
theorem IsPs.but {A : Nat → Prop} {M : Addr → Prop} {w w' : World} {v : Value} {l : List Tp} (h : IsPs A w v l) (hb : But M w w') (hM : ∀ a, M a → ¬ A a.block) : IsPs A w' v l := by
  obtain ⟨p, n, cap, R, e, h1, h2, h3, h4, h5⟩ := h
  exact ⟨p, n, cap, R, e, SlIs.butN h1 (fun _ _ hc hm => hb.keep hc hm) (fun b o i e h0 q => hM _ q (h3 b o e h0)), h2, h3, h4, fun i a b => (h5 i a b).but hb hM⟩
theorem IsP.mono {A A' : Nat → Prop} {w : World} {r : Rw} {t : Tp} (h : IsP A w r t) (hA : ∀ b, A b → A' b) : IsP A' w r t := by
  induction h with
  | mk s p n cap R l hs hp hb hl _ ih => exact .mk s p n cap R l hs hp (fun b o e h0 => hA b (hb b o e h0)) hl ih
theorem IsPs.mono {A A' : Nat → Prop} {w : World} {v : Value} {l : List Tp} (h : IsPs A w v l) (hA : ∀ b, A b → A' b) : IsPs A' w v l := by
  obtain ⟨p, n, cap, R, e, h1, h2, h3, h4, h5⟩ := h
  exact ⟨p, n, cap, R, e, h1, h2, fun b o e h0 => hA b (h3 b o e h0), h4, fun i a b => (h5 i a b).mono hA⟩
theorem IsP.later {A : Nat → Prop} {w w' : World} {r : Rw} {t : Tp} (h : IsP A w r t) (hb : Below w.heap.size w w') : IsP A w' r t := h.but (M := fun _ => False) (But.of_below hb) (fun a q => q.elim)
theorem IsPs.later {A : Nat → Prop} {w w' : World} {v : Value} {l : List Tp} (h : IsPs A w v l) (hb : Below w.heap.size w w') : IsPs A w' v l := h.but (M := fun _ => False) (But.of_below hb) (fun a q => q.elim)
theorem IsPs.isNil (A : Nat → Prop) (w : World) : IsPs A w (.slice none 0 0) [] := ⟨none, 0, 0, [], rfl, SlIs.isNil rwEnc w, fun _ => rfl, (fun _ _ e => by cases e), rfl, fun i h => absurd h (by simp)⟩
theorem IsP.leaf (A : Nat → Prop) (w : World) (s : ByteArray) : IsP A w ⟨s, none, 0, 0⟩ (.mk s []) :=
  .mk s none 0 0 [] [] (SlIs.isNil rwEnc w) (fun _ => rfl) (fun _ _ e => by cases e) rfl (fun i h => absurd h (by simp))
theorem IsP.node {A : Nat → Prop} {w : World} {p : Option Addr} {n cap : Nat} {l : List Tp} (s : ByteArray) (h : IsPs A w (.slice p n cap) l) : IsP A w ⟨s, p, n, cap⟩ (.mk s l) := by
  obtain ⟨p', n', cap', R, e, h1, h2, h3, h4, h5⟩ := h
  cases e
  exact .mk s p n cap R l h1 h2 h3 h4 h5
theorem IsP.parts {A : Nat → Prop} {w : World} {r : Rw} {t : Tp} (h : IsP A w r t) : r.name = t.name ∧ IsPs A w (.slice r.p r.n r.cap) t.args := by
  cases h with
  | mk s p n cap R l h1 h2 h3 h4 h5 => exact ⟨rfl, ⟨p, n, cap, R, rfl, h1, h2, h3, h4, h5⟩⟩
/-- the cells of a type -/
structure PAt (w : World) (b o : Nat) (r : Rw) : Prop where
  c0 : w.cell? ⟨b, o, none⟩ = some (.string r.name)
  c1 : w.cell? ⟨b, o + 1, none⟩ = some (.slice r.p r.n r.cap)
theorem PAt.below {w w' : World} {b o : Nat} {r : Rw} (h : PAt w b o r) (hb : Below w.heap.size w w') : PAt w' b o r :=
  ⟨by rw [hb.cell (World.block_lt_of_cell? w _ h.c0)]; exact h.c0, by rw [hb.cell (World.block_lt_of_cell? w _ h.c1)]; exact h.c1⟩
/-- the type at a place of a list -/
theorem IsPs.at_ {A : Nat → Prop} {w : World} {p : Option Addr} {n cap : Nat} {l : List Tp} (h : IsPs A w (.slice p n cap) l) : n = l.length ∧ n ≤ maxLen ∧ ∀ j, (hj : j < l.length) → ∃ (b off : Nat) (r : Rw), p = some ⟨b, off, none⟩ ∧ IsP A w r l[j] ∧ PAt w b (off + j * 2) r := by
  obtain ⟨p', n', cap', R, e, h1, _, _, h2, h3⟩ := h
  cases e
  obtain ⟨hn, hnc, hcm, hl⟩ := h1.lies
  refine ⟨by omega, by omega, fun j hj => ?_⟩
  have hjR : j < R.length := by omega
  obtain ⟨b, off, e, hc⟩ := hl (by omega)
  exact ⟨b, off, R[j], e, h3 j hjR hj, hc.elem j hjR 0 (by decide) _ rfl, hc.elem j hjR 1 (by decide) _ rfl⟩
theorem IsPs.shape {A : Nat → Prop} {w : World} {v : Value} {l : List Tp} (h : IsPs A w v l) : ∃ p cap, v = .slice p l.length cap ∧ IsPs A w (.slice p l.length cap) l := by
  obtain ⟨p, n, cap, R, rfl, h1, h2, h3, h4, h5⟩ := h
  have hn := (h1.lies).1
  have e : n = l.length := by omega
  subst e
  exact ⟨p, cap, rfl, ⟨p, _, cap, R, rfl, h1, h2, h3, h4, h5⟩⟩
end Go.Proofs.YthikdkeanndidaaDoor

/-
  LAWS: a type as a value; what says whether two types are the same.
-/
namespace Go.Proofs.YthikdkeanndidaaDoor
open Go Go.RowKit
set_option linter.unusedVariables false
set_option linter.unusedSimpArgs false

/-- a type as a value -/
def tpV (q : Rw) : Value := .agg #[.string q.name, .slice q.p q.n q.cap]
theorem box_p (w : World) (q : Rw) (t : TypeId) : PAt (w.alloc (.cells #[.string q.name, .slice q.p q.n q.cap] t)) w.heap.size 0 q :=
  ⟨by rw [Lib.cell_of_heap (heap_alloc_new w _)]; rfl, by rw [Lib.cell_of_heap (heap_alloc_new w _)]; rfl⟩
/-- it says whether two types are the same -/
def SameP (t u : Tp) (w : World) (e : Ending) (w' : World) : Prop := ∃ b : Bool, e = .returned (.bool b) ∧ (b = true ↔ t = u) ∧ Below w.heap.size w w'
def SameC (f : FuncId) (A1 A2 : Nat → Prop) (t u : Tp) : Prop := ∀ (q1 q2 : Rw) (w : World), IsP A1 w q1 t → IsP A2 w q2 u →
  Calls Tryd.prog f #[.agg #[.string q1.name, .slice q1.p q1.n q1.cap], .agg #[.string q2.name, .slice q2.p q2.n q2.cap]] w (SameP t u w)
theorem bytes_ne2 {a b : ByteArray} (h : a ≠ b) : (a.toList == b.toList) = false := by
  rw [Bool.eq_false_iff]
  intro e
  apply h
  have e2 := eq_of_beq e
  rw [ByteArray.toList_eq, ByteArray.toList_eq] at e2
  obtain ⟨⟨x⟩⟩ := a
  obtain ⟨⟨y⟩⟩ := b
  simp only at e2
  rw [e2]

end Go.Proofs.YthikdkeanndidaaDoor

/-
  LAWS: what a type is made of.
-/
namespace Go.Proofs.YthikdkeanndidaaDoor
open Go Go.RowKit
set_option linter.unusedVariables false
set_option linter.unusedSimpArgs false

theorem infoTp : (Tryd.prog.info? 44).map (fun i => (i.zero, i.size, i.bytes)) = some (some (.agg #[.string ⟨#[]⟩, .slice none 0 0]), 2, 40) := by kernel_rfl
def rw0 : Rw := ⟨⟨#[]⟩, none, 0, 0⟩
end Go.Proofs.YthikdkeanndidaaDoor

/-
  LAWS: a box that holds a type.
-/
namespace Go.Proofs.YthikdkeanndidaaDoor
open Go Go.RowKit
set_option linter.unusedVariables false
set_option linter.unusedSimpArgs false

theorem results_cellP {fn : Func} {t : Tmp} {ty : TypeId} (h : fn.results = #[.cell t ty]) (tmps : Array Value) (P : Program) (w : World) (a : Addr) (v : Value) (ht : tmps.getD t undef = .pointer (some a)) (hl : (loadVar ty a).run P w = .ok v w) :
    (results fn tmps).run P w = .ok v w := by
  have ht' : tmps[t]?.getD undef = .pointer (some a) := by simpa using ht
  simp [results, h, ht', asAddr, hl]
theorem load_tp (W : World) (b : Nat) (s : ByteArray) (p : Option Addr) (n c : Nat) (h : W.heap[b]? = some (.cells #[.string s, .slice p n c] 44 (0, 0))) :
    (loadVar 44 ⟨b, 0, none⟩).run Tryd.prog W = .ok (.agg #[.string s, .slice p n c]) W := by
  have c0 : W.cell? ⟨b, 0, none⟩ = some (.string s) := by rw [Lib.cell_of_heap h]; rfl
  have c1 : W.cell? ⟨b, 1, none⟩ = some (.slice p n c) := by rw [Lib.cell_of_heap h]; rfl
  go_simp
/-- the cells of a result that is stored into its box -/
theorem box_store {w : World} {B : Nat} {u0 u1 : Value} (h : w.heap[B]? = some (.cells #[u0, u1] 44 (0, 0))) (s : ByteArray) (p : Option Addr) (n c : Nat) :
    ((w.setCell ⟨B, 0, none⟩ (.string s)).setCell ⟨B, 1, none⟩ (.slice p n c)).heap[B]? = some (.cells #[.string s, .slice p n c] 44 (0, 0)) := by
  have e1 := heap_setCell_same w B 0 _ _ (.string s) h
  have e2 := heap_setCell_same _ B 1 _ _ (.slice p n c) e1
  rw [e2]
  rfl

theorem box_facts {w : World} {B : Nat} {u0 u1 : Value} (h : w.heap[B]? = some (.cells #[u0, u1] 44 (0, 0))) (s : ByteArray) (p : Option Addr) (n c : Nat) :
    w.cell? ⟨B, 0, none⟩ = some u0 ∧ (w.setCell ⟨B, 0, none⟩ (.string s)).cell? ⟨B, 1, none⟩ = some u1 ∧ w.frozen? ⟨B, 0, none⟩ = false ∧ w.frozen? ⟨B, 1, none⟩ = false ∧
    ((w.setCell ⟨B, 0, none⟩ (.string s)).setCell ⟨B, 1, none⟩ (.slice p n c)).cell? ⟨B, 0, none⟩ = some (.string s) ∧ ((w.setCell ⟨B, 0, none⟩ (.string s)).setCell ⟨B, 1, none⟩ (.slice p n c)).cell? ⟨B, 1, none⟩ = some (.slice p n c) := by
  refine ⟨by rw [Lib.cell_of_heap h]; rfl, ?_, Lib.frozen_of_heap h 0, Lib.frozen_of_heap h 1, by rw [Lib.cell_of_heap (box_store h s p n c)]; rfl, by rw [Lib.cell_of_heap (box_store h s p n c)]; rfl⟩
  rw [Lib.cell_of_heap (heap_setCell_same w B 0 _ _ (.string s) h)]
  rfl

end Go.Proofs.YthikdkeanndidaaDoor

/-
  LAWS: a row of types of one's own that grows, while dice are thrown.
-/
namespace Go.Proofs.YthikdkeanndidaaDoor
open Go Go.RowKit Go.Maps
set_option linter.unusedVariables false
set_option linter.unusedSimpArgs false
set_option maxRecDepth 1000000

abbrev tpT : TypeId := 44
/-- a type is as it was where its blocks are -/
theorem IsP.keepB {A : Nat → Prop} {w w' : World} {r : Rw} {t : Tp} (h : IsP A w r t) (hk : ∀ b, A b → b < w.heap.size → w'.heap[b]? = w.heap[b]?) : IsP A w' r t := by
  induction h with
  | mk s p n cap R l hs hp hA hl _ ih =>
    exact .mk s p n cap R l (SlIs.butN (M := fun a => ¬ A a.block) hs (fun a v hc hm => by
      rw [World.cell?_of_block (w := w) (hk a.block (Classical.not_not.1 hm) (World.block_lt_of_cell? w _ hc))]; exact hc) (fun b o i e h0 q => q (hA b o e h0))) hp hA hl ih
/-- where the types of a row lie: behind base, and not in the row -/
def offRow (base : Nat) (v : Value) : Nat → Prop := fun k => base ≤ k ∧ some k ≠ v.ownBlock
/-- a row of types of one's own -/
structure TRow (w : World) (base : Nat) (v : Value) (R : List Rw) (l : List Tp) : Prop where
  own : OwnL rwEnc tpT w base v R
  len : R.length = l.length
  at_ : ∀ i (h1 : i < R.length) (h2 : i < l.length), IsP (offRow base v) w R[i] l[i]
theorem TRow.isNil (w : World) (base : Nat) : TRow w base (.slice none 0 0) [] [] := ⟨OwnL.isNil _ _ _ _, rfl, fun i h => absurd h (Nat.not_lt_zero i)⟩
theorem TRow.below {w w' : World} {base : Nat} {v : Value} {R : List Rw} {l : List Tp} (h : TRow w base v R l) (hb : Below w.heap.size w w') : TRow w' base v R l :=
  ⟨OwnL.below h.own hb, h.len, fun i a b => (h.at_ i a b).later hb⟩
theorem TRow.dr {d : Dice} {w w' : World} {base s0 : Nat} {v : Value} {R : List Rw} {l : List Tp} (h : TRow w base v R l) (hd : Dr d s0 w w') (hD : d.D < base) (hs : w.heap.size ≤ s0) : TRow w' base v R l :=
  ⟨own_dr h.own hd hD hs, h.len, fun i a b => (h.at_ i a b).keepB (fun k hk hlt => hd.block k (by omega) (by have := hk.1; omega))⟩
/-- the row with one more -/
theorem TRow.push {w w' : World} {base : Nat} {v v' : Value} {R : List Rw} {l : List Tp} {q : Rw} {t : Tp} (h : TRow w base v R l) (hg : w.grownBy w' v.ownBlock) (hv : OwnL rwEnc tpT w' base v' (R ++ [q]))
    (hat : v'.ownBlock = v.ownBlock ∨ v'.ownBlock = some w.heap.size) (hq : IsP (offRow base v) w q t) (hin : ∀ (A : Nat → Prop) q t, IsP A w q t → IsP (fun k => A k ∧ k < w.heap.size) w q t) : TRow w' base v' (R ++ [q]) (l ++ [t]) := by
  have key : ∀ q t, IsP (offRow base v) w q t → IsP (offRow base v') w' q t := fun q t h => by
    have h1 := (hin _ q t h).keepB (w' := w') (fun k hk hlt => hg.block k hlt hk.1.2)
    refine h1.mono (fun k hk => ⟨hk.1.1, ?_⟩)
    rcases hat with e | e
    · rw [e]; exact hk.1.2
    · rw [e]; intro q; injection q with q; have := hk.2; omega
  refine ⟨hv, by simp [h.len], fun i a b => ?_⟩
  by_cases e : i < l.length
  · rw [List.getElem_append_left (by rw [h.len]; exact e), List.getElem_append_left e]
    exact key _ _ (h.at_ i _ e)
  · have e' : i = l.length := by simp at b; omega
    subst e'
    rw [List.getElem_append_right (Nat.le_refl _), List.getElem_append_right (by rw [h.len]; exact Nat.le_refl _)]
    simp only [h.len, Nat.sub_self, List.getElem_cons_zero]
    exact key _ _ hq
/-- the blocks of a type are there -/
theorem IsP.here {A : Nat → Prop} {w : World} {r : Rw} {t : Tp} (h : IsP A w r t) : IsP (fun k => A k ∧ k < w.heap.size) w r t := by
  induction h with
  | mk s p n cap R l hs hp hA hl _ ih =>
    refine .mk s p n cap R l hs hp (fun b o e h0 => ⟨hA b o e h0, ?_⟩) hl ih
    obtain ⟨hn, h2, h3, h4⟩ := hs.lies
    obtain ⟨b', off, e', hc⟩ := h4 (by omega)
    rw [e] at e'
    injection e' with e'
    injection e' with e1 _ _
    have hR : 0 < R.length := by omega
    have := hc.elem 0 hR 0 (by decide) _ rfl
    rw [e1]
    exact World.block_lt_of_cell? w _ this
/-- the row, as a list that has been made -/
theorem TRow.fin {w : World} {base : Nat} {v : Value} {R : List Rw} {l : List Tp} (h : TRow w base v R l) : ∃ p c, v = .slice p l.length c ∧ IsPs (fun k => base ≤ k) w v l := by
  have hs := h.own.sl
  have hl := h.len
  rcases h.own.2 with ⟨rfl, h0⟩ | ⟨g, cap, cur, rfl, hb, hg, hr⟩
  · have e : l = [] := List.eq_nil_of_length_eq_zero (by omega)
    subst e
    exact ⟨none, 0, rfl, IsPs.isNil _ _⟩
  · refine ⟨some ⟨g, 0, none⟩, cap, by rw [hl], some ⟨g, 0, none⟩, R.length, cap, R, rfl, hs, (fun e => by cases e), fun b o e _ => ?_, hl, fun i a b => (h.at_ i a b).mono (fun k hk => hk.1)⟩
    injection e with e
    injection e with e _ _
    omega
end Go.Proofs.YthikdkeanndidaaDoor

/-
  CONTRACTS: the reference's Same of types.
-/
namespace Go.Proofs.YthikdkeanndidaaDoor
open Go Go.RowKit
set_option linter.unusedVariables false
set_option linter.unusedSimpArgs false

/-- a bool that says whether two types are the same -/
def tyEq (t u : Tp) : Ty LeW := tyOf LeW (α := {b : Bool // b = true ↔ t = u}) ⟨⟨@decide (t = u) (Classical.propDecidable _), by simp⟩⟩ (fun b => .bool b.1)
theorem tyEq_f (t u : Tp) (b : Bool) (h : b = true ↔ t = u) : (tyEq t u).f ⟨b, h⟩ = .bool b := rfl
set_option maxHeartbeats 4000000 in
set_option maxRecDepth 100000 in
theorem rsame_step {A1 A2 : Nat → Prop} (s u : ByteArray) (l m : List Tp) (hS : ∀ j (a : j < l.length) (b : j < m.length), SameC 52 A1 A2 l[j] m[j]) : SameC 52 A1 A2 (.mk s l) (.mk u m) := by
  intro q1 q2 w h1 h2
  obtain ⟨e1, g1⟩ := h1.parts
  obtain ⟨e2, g2⟩ := h2.parts
  obtain ⟨s1, p1, n1, c1⟩ := q1
  obtain ⟨s2, p2, n2, c2⟩ := q2
  have e1' : s1 = s := e1
  have e2' : s2 = u := e2
  subst e1'; subst e2'
  have g1' : IsPs A1 w (.slice p1 n1 c1) l := g1
  have g2' : IsPs A2 w (.slice p2 n2 c2) m := g2
  obtain ⟨z1, hm1, -⟩ := g1'.at_
  obtain ⟨z2, hm2, -⟩ := g2'.at_
  subst z1; subst z2
  unfold maxLen at hm1 hm2
  have hb1 := below_box w (.cells #[.string s1, .slice p1 l.length c1] 44)
  have hb2 := bnext hb1 (below_box _ (.cells #[.string s2, .slice p2 m.length c2] 44))
  have x := box_p w ⟨s1, p1, l.length, c1⟩ 44
  have HX := Lib.hid (x.below (below_box _ (.cells #[.string s2, .slice p2 m.length c2] 44)))
  have hy := (box_p (w.alloc (.cells #[.string s1, .slice p1 l.length c1] 44)) ⟨s2, p2, m.length, c2⟩ 44)
  rw [show (w.alloc (.cells #[.string s1, .slice p1 l.length c1] 44)).heap.size = w.heap.size + 1 from by simp] at hy
  have HY := Lib.hid hy
  have HG1 := Lib.hid (g1'.later hb2)
  have HG2 := Lib.hid (g2'.later hb2)
  have HB := Lib.hid hb2
  have HS := Lib.hid hS
  obtain ⟨x0, x1⟩ := HX.out
  obtain ⟨y0, y1⟩ := HY.out
  simp only [Nat.zero_add] at x0 x1 y0 y1
  clear x hy hb1 hb2 h1 h2 g1 g2 g1' g2' e1 e2 hS
  by_cases hs : s1 = s2
  · subst hs
    have hs3 : (s1.toList != s1.toList) = false := by simp
    by_cases hlen : l.length = m.length
    · have hne : (((l.length : Nat) : Int) != ((m.length : Nat) : Int)) = false := by rw [hlen]; simp
      have HLEN := Lib.hid hlen
      clear hlen
      go_enter Tryd.func52, Tryd.ntmps52
      go_wp2_with fail
      clear hne hs3 x0 x1 y0 y1
      generalize hW : (w.alloc (.cells #[.string s1, .slice p1 l.length c1] 44)).alloc (.cells #[.string s1, .slice p2 m.length c2] 44) = w2 at *
      clear hW
      go_loopw [5] (fun i wr => ∃ j : Nat, j ≤ l.length ∧ i = .int .i64 j ∧ Hid (Below w2.heap.size w2 wr) ∧ Hid (∀ x (a : x < l.length) (b : x < m.length), x < j → l[x] = m[x])) (fun i _ => l.length - (intOf i).toNat)
      case atStart => exact ⟨0, Nat.zero_le _, rfl, Below.refl _ _, fun x a b h => by omega⟩
      case round =>
        obtain ⟨j, hj, rfl, HBR, HE⟩ := hrel
        obtain ⟨wx, rfl⟩ : ∃ x, x = wr := ⟨wr, rfl⟩
        obtain ⟨x0, x1⟩ := HX.out.below HBR.out
        simp only [Nat.zero_add] at x0 x1
        by_cases hlt : j < l.length
        · have hlti : (j : Int) < (l.length : Int) := by omega
          have hltm : j < m.length := by have := HLEN.out; omega
          have hltmi : (j : Int) < (m.length : Int) := by omega
          have hdr : Below w2.heap.size w2 wx.drew := HBR.out.trans ((Below.refl _ _).drew)
          obtain ⟨b1, o1, q1, rfl, t1, a1⟩ := (HG1.out.later hdr).at_.2.2 j hlt
          obtain ⟨b2, o2, q2, rfl, t2, a2⟩ := (HG2.out.later hdr).at_.2.2 j hltm
          obtain ⟨tj, htj⟩ : ∃ t, t = l[j]'hlt := ⟨_, rfl⟩
          obtain ⟨uj, huj⟩ : ∃ t, t = m[j]'hltm := ⟨_, rfl⟩
          have HSJ := Lib.hid (HS.out j hlt hltm)
          rw [← htj, ← huj] at HSJ
          rw [← htj] at t1
          rw [← huj] at t2
          have HTJ := Lib.hid htj
          have HUJ := Lib.hid huj
          clear htj huj
          have HT1 := Lib.hid t1
          have HT2 := Lib.hid t2
          have HA1 := Lib.hid a1
          have HA2 := Lib.hid a2
          have HXX := HX
          have HYY := HY
          have HX := Lib.hid (HXX.out.below hdr)
          have HY := Lib.hid (HYY.out.below hdr)
          clear t1 t2 a1 a2 hdr
          go_wp2_with fail
          clear x0 x1
          apply wp_region_relT LeW.refl LeW.trans 11
          case hm => kernel_rfl
          case hB => kernel_rfl
          simp only [List.take_succ_cons, List.take_zero, List.drop_succ_cons, List.drop_zero]
          apply wpRel_cons (t := tyIs _ _)
          case h1 => (intro w' hl hd2; clear hl hd2; unfold relAt; go_simp; exact rel_is LeW.refl)
          intro _
          rw [tyIs_f]
          go_simp
          apply wpRel_cons (t := tyIs _ _)
          case h1 => (intro w' hl hd2; obtain ⟨k0, k1⟩ := HX.out.below hl; simp only [Nat.zero_add] at k0 k1; clear hl hd2; unfold relAt; go_simp; exact rel_is LeW.refl)
          intro _
          rw [tyIs_f]
          go_simp
          apply wpRel_cons (t := tyIs _ _)
          case h1 => (intro w' hl hd2; clear hl hd2; unfold relAt; go_simp; exact rel_is LeW.refl)
          intro _
          rw [tyIs_f]
          go_simp
          apply wpRel_cons (t := tyIs _ _)
          case h1 => (intro w' hl hd2; clear hl hd2; unfold relAt; go_simp; exact rel_is LeW.refl)
          intro _
          rw [tyIs_f]
          go_simp
          apply wpRel_cons (t := tyIs _ _)
          case h1 => (intro w' hl hd2; obtain ⟨k0, k1⟩ := HA1.out.below hl; clear hl hd2; unfold relAt; go_simp; exact rel_is LeW.refl)
          intro _
          rw [tyIs_f]
          go_simp
          apply wpRel_cons (t := tyIs _ _)
          case h1 => (intro w' hl hd2; clear hl hd2; unfold relAt; go_simp; exact rel_is LeW.refl)
          intro _
          rw [tyIs_f]
          go_simp
          apply wpRel_cons (t := tyIs _ _)
          case h1 => (intro w' hl hd2; obtain ⟨k0, k1⟩ := HY.out.below hl; simp only [Nat.zero_add] at k0 k1; clear hl hd2; unfold relAt; go_simp; exact rel_is LeW.refl)
          intro _
          rw [tyIs_f]
          go_simp
          apply wpRel_cons (t := tyIs _ _)
          case h1 => (intro w' hl hd2; clear hl hd2; unfold relAt; go_simp; exact rel_is LeW.refl)
          intro _
          rw [tyIs_f]
          go_simp
          apply wpRel_cons (t := tyIs _ _)
          case h1 => (intro w' hl hd2; clear hl hd2; unfold relAt; go_simp; exact rel_is LeW.refl)
          intro _
          rw [tyIs_f]
          go_simp
          apply wpRel_cons (t := tyIs _ _)
          case h1 => (intro w' hl hd2; obtain ⟨k0, k1⟩ := HA2.out.below hl; clear hl hd2; unfold relAt; go_simp; exact rel_is LeW.refl)
          intro _
          rw [tyIs_f]
          go_simp
          apply wpRel_cons (t := tyEq tj uj)
          case h1 => (intro w' hl hd2; have hc := HSJ.out q1 q2 w' (HT1.out.later hl) (HT2.out.later hl); clear hl hd2; unfold relAt; go_simp; refine ⟨LeW.refl _, ?_⟩; refine hc.mono ?_; rintro e w2 ⟨bb, rfl, hbb, hb5⟩; exact ⟨⟨bb, hbb⟩, rfl, hb5, trivial⟩)
          rintro ⟨bb, hbb⟩
          rw [tyEq_f]
          go_simp
          apply wpRel_nil (Ts := [])
          intro wq hl hF
          have HBZ := Lib.hid (HBR.out.trans ((((Below.refl _ wx).drew).trans hl).mono HBR.out.size))
          clear hl hF HX HY
          cases bb
          · go_wp2_with fail
            go_ret
            refine ⟨false, rfl, ⟨fun h => (by cases h), fun h => ?_⟩, bnext HB.out HBZ.out⟩
            injection h with _ h
            subst h
            exact absurd (hbb.2 (by rw [HTJ.out, HUJ.out])) (by decide)
          · have hbt : l[j]'hlt = m[j]'hltm := by rw [← HTJ.out, ← HUJ.out]; exact hbb.1 rfl
            go_wp2_with fail
            go_roundw
            case rel => exact ⟨j + 1, by omega, by go_num, HBZ, fun x a b h => by
              by_cases e : x < j
              · exact HE.out x a b e
              · obtain rfl : x = j := by omega
                exact hbt⟩
            case measure => simp [intOf]; omega
        · obtain rfl : j = l.length := by omega
          go_wp2_with fail
          go_ret
          refine ⟨true, rfl, ⟨fun _ => ?_, fun _ => rfl⟩, bnext HB.out HBR.out⟩
          rw [show l = m from List.ext_getElem HLEN.out (fun x a b => HE.out x a b a)]
    · have hne : (((l.length : Nat) : Int) != ((m.length : Nat) : Int)) = true := by rw [bne_iff_ne]; omega
      go_enter Tryd.func52, Tryd.ntmps52
      go_wp2_with fail
      go_ret
      exact ⟨false, rfl, ⟨fun h => (by cases h), fun h => by injection h with _ h; exact absurd (by rw [h]) hlen⟩, HB.out⟩
  · have hs2 := bytes_ne2 hs
    have hs3 : (s1.toList != s2.toList) = true := by simp [bne, hs2]
    go_enter Tryd.func52, Tryd.ntmps52
    go_wp2_with fail
    go_ret
    exact ⟨false, rfl, ⟨fun h => (by cases h), fun e => by injection e with e _; exact absurd e hs⟩, HB.out⟩
theorem rsameN_any {A1 A2 : Nat → Prop} : ∀ (N : Nat) (t u : Tp), SizeOf.sizeOf t < N → SameC 52 A1 A2 t u
  | 0, t, _, hN => absurd hN (by omega)
  | N + 1, .mk s l, .mk u m, hN => rsame_step s u l m fun j a b => rsameN_any N l[j] m[j] (by
      have h3 := List.sizeOf_lt_of_mem (List.getElem_mem a)
      simp only [Tp.mk.sizeOf_spec] at hN
      omega)
theorem rsame_any {A1 A2 : Nat → Prop} (t u : Tp) : SameC 52 A1 A2 t u := rsameN_any _ t u (Nat.lt_succ_self _)
/-- lists that read as types -/
theorem rsameL_any {A1 A2 : Nat → Prop} (l m : List Tp) (p1 p2 : Option Addr) (n1 n2 c1 c2 : Nat) (w : World) (h1 : IsPs A1 w (.slice p1 n1 c1) l) (h2 : IsPs A2 w (.slice p2 n2 c2) m) :
    Calls Tryd.prog 53 #[.slice p1 n1 c1, .slice p2 n2 c2] w fun e w' => ∃ b : Bool, e = .returned (.bool b) ∧ (b = true ↔ l = m) ∧ Below w.heap.size w w' := by
  have HC := Lib.hid (rsame_any (.mk ⟨#[]⟩ l) (.mk ⟨#[]⟩ m) ⟨⟨#[]⟩, p1, n1, c1⟩ ⟨⟨#[]⟩, p2, n2, c2⟩ w (IsP.node _ h1) (IsP.node _ h2))
  clear h1 h2
  go_enter Tryd.func53, Tryd.ntmps53
  go_wp2_with fail
  refine HC.out.mono ?_
  rintro e w5 ⟨bb, rfl, hbb, hb5⟩
  have HBZ := Lib.hid hb5
  have HBB := Lib.hid hbb
  clear hbb hb5
  go_wp2_with fail
  go_ret
  exact ⟨bb, rfl, HBB.out.trans ⟨fun e => by injection e, fun e => by rw [e]⟩, HBZ.out⟩
end Go.Proofs.YthikdkeanndidaaDoor

/-
  CONTRACT: (*Dice).Type: the types that statements make.
-/
namespace Go.Proofs.YthikdkeanndidaaDoor
open Go Go.RowKit Go.Maps
set_option linter.unusedVariables false
set_option linter.unusedSimpArgs false
set_option maxRecDepth 1000000

def Strs (φ : ByteArray → Prop) (w : World) (p : Option Addr) (m : Nat) : Prop :=
  ∀ i, i < m → ∃ b o, ∃ s : ByteArray, p = some ⟨b, o, none⟩ ∧ w.cell? ⟨b, o + i, none⟩ = some (.string s) ∧ φ s
theorem Strs.keep {φ : ByteArray → Prop} {M : Addr → Prop} {w w' : World} {p : Option Addr} {n : Nat} (h : Strs φ w p n) (hb : But M w w') (hm : ∀ b o i, p = some ⟨b, o, none⟩ → ¬ M ⟨b, i, none⟩) : Strs φ w' p n := by
  intro i hi
  obtain ⟨b, o, s, hp, hc, hs⟩ := h i hi
  exact ⟨b, o, s, hp, hb.keep hc (hm b o _ hp), hs⟩
theorem Strs.thrown {φ : ByteArray → Prop} {d : Dice} {w w' : World} {p : Option Addr} {n : Nat} (h : Strs φ w p n) (ht : Thrown d w w') (hp : ∀ b o, p = some ⟨b, o, none⟩ → b ≠ d.D) : Strs φ w' p n :=
  h.keep ht.but (fun b o i e q => by unfold isAt at q; injection q with q1 _ _; exact hp b o e q1)
theorem Strs.mono {φ ψ : ByteArray → Prop} {w : World} {p : Option Addr} {n : Nat} (h : Strs φ w p n) (hm : ∀ s, φ s → ψ s) : Strs ψ w p n := by
  intro i hi
  obtain ⟨b, o, s, hp, hc, hs⟩ := h i hi
  exact ⟨b, o, s, hp, hc, hm s hs⟩
/-- (*Dice).Of, of strings with φ -/
theorem ofS_any (φ : ByteArray → Prop) (d : Dice) (m cap b o : Nat) (w : World) (hd : DiceAt d w) (h1 : 1 ≤ m) (h2 : m ≤ 1000000) (hs : Strs φ w (some ⟨b, o, none⟩) m) (hb : b ≠ d.D) :
    Calls Tryd.prog 24 #[.pointer (some ⟨d.D, 0, none⟩), .slice (some ⟨b, o, none⟩) m cap] w fun e w' => ∃ s : ByteArray, φ s ∧ e = .returned (.string s) ∧ Thrown d w w' := by
  have HD := Lib.hid hd
  have HS := Lib.hid hs
  clear hd hs
  go_enter Tryd.func24, Tryd.ntmps24
  go_wp2_with (go_at_call 8; refine (next_any d m _ HD.out h1 (by omega)).mono ?_; rintro e w1 ⟨k, hk, rfl, ht, -⟩; obtain ⟨b', o', s, hp, hc, hn⟩ := (HS.out.thrown ht (fun x y e => by injection e with e; injection e with e _ _; omega)) k hk; injection hp with hp; injection hp with hp1 hp2 _; subst hp1; subst hp2; have HT := Lib.hid ht; have HN := Lib.hid hn; clear ht hn)
  go_ret
  exact ⟨s, HN.out, rfl, HT.out⟩


def namesT : List ByteArray := [⟨#[105, 110, 116]⟩, ⟨#[98, 111, 111, 108]⟩, ⟨#[97, 58, 58, 80]⟩, ⟨#[36, 84]⟩, ⟨#[36, 85]⟩, ⟨#[63, 48]⟩, ⟨#[63, 49]⟩, ⟨#[63, 50]⟩, ⟨#[63, 51]⟩, ⟨#[101, 114, 114, 111, 114]⟩, ⟨#[97, 58, 58, 66, 111, 120]⟩, ⟨#[117, 110, 105, 116]⟩]
/-- a type that dice make, of at most k levels of args -/
inductive MadeT : Nat → Tp → Prop
  | mk (k : Nat) (s : ByteArray) (l : List Tp) : s ∈ namesT → l.length ≤ 2 → (k = 0 → l = []) → (∀ t, t ∈ l → MadeT (k - 1) t) → MadeT k (.mk s l)
def tp0 : Tp := .mk ⟨#[105, 110, 116]⟩ []
theorem madeT0 (k : Nat) : MadeT k tp0 := .mk k _ [] (List.Mem.head _) (Nat.zero_le _) (fun _ => rfl) (fun t h => by cases h)
def awayT (d : Dice) (row : Option Nat) (B : Nat) : Nat → Prop := fun k => (B ≤ k ∧ some k ≠ row) ∧ k ≠ d.D
theorem tp_fresh {d : Dice} {row : Option Nat} {B : Nat} {W w : World} {q : Rw} {t : Tp} (h : IsP (fun k => W.heap.size ≤ k) w q t) (hB : B ≤ W.heap.size) (hD : d.D < W.heap.size) (hr : ∀ j, row = some j → j < W.heap.size) : IsP (awayT d row B) w q t :=
  h.mono fun k hk => ⟨⟨by omega, fun e => by have := hr k e.symm; omega⟩, by omega⟩
/-- a type that was drawn -/
def tvTp (d : Dice) (row : Option Nat) (B dep : Nat) : TyV := ⟨{x : Rw × Tp // MadeT dep x.2}, ⟨⟨(default, tp0), madeT0 _⟩⟩, fun x => .agg #[.string x.1.1.name, .slice x.1.1.p x.1.1.n x.1.1.cap], fun x w => IsP (awayT d row B) w x.1.1 x.1.2⟩
theorem tvTp_good (d : Dice) (row : Option Nat) (B dep c k : Nat) : Good (AD d) (fun x y => x.grownBy y row) c k (tvTp d row B dep) :=
  ⟨fun x w w' hl h => IsP.keepB h (fun k hk hlt => hl.block k hlt hk.2), fun _ x w w' hl h => IsP.keepB h (fun k hk hlt => hl.block k hlt hk.1.2)⟩
theorem tvTp_f (d : Dice) (row : Option Nat) (B dep : Nat) (q : Rw) (t : Tp) (h : MadeT dep t) : (tvTp d row B dep).f ⟨(q, t), h⟩ = .agg #[.string q.name, .slice q.p q.n q.cap] := rfl
/-- one type in a slice that was just laid -/
def tvOneT (d : Dice) (row : Option Nat) (B dep : Nat) : TyV := ⟨{x : Nat × Rw × Tp // MadeT dep x.2.2}, ⟨⟨(0, default, tp0), madeT0 _⟩⟩, fun x => .slice (some ⟨x.1.1, 0, none⟩) 1 1, fun x w => CellsAt w x.1.1 0 (Rw.cells x.1.2.1) ∧ some x.1.1 ≠ row ∧ x.1.1 < w.heap.size ∧ x.1.1 ≠ d.D ∧ IsP (awayT d row B) w x.1.2.1 x.1.2.2⟩
theorem cells_sameT {w w' : World} {b off : Nat} {cs : List Value} (h : CellsAt w b off cs) (e : w'.heap[b]? = w.heap[b]?) : CellsAt w' b off cs := fun j v hv => by
  rw [World.cell?_of_block (w := w) e]; exact h j v hv
theorem tvOneT_good (d : Dice) (row : Option Nat) (B dep c k : Nat) : Good (AD d) (fun x y => x.grownBy y row) c k (tvOneT d row B dep) :=
  ⟨fun x w w' hl h => ⟨cells_sameT h.1 (hl.block x.1.1 h.2.2.1 h.2.2.2.1), h.2.1, Nat.lt_of_lt_of_le h.2.2.1 hl.size, h.2.2.2.1, IsP.keepB h.2.2.2.2 (fun k hk hlt => hl.block k hlt hk.2)⟩,
   fun _ x w w' hl h => ⟨cells_sameT h.1 (hl.block x.1.1 h.2.2.1 h.2.1), h.2.1, Nat.lt_of_lt_of_le h.2.2.1 hl.size, h.2.2.2.1, IsP.keepB h.2.2.2.2 (fun k hk hlt => hl.block k hlt hk.1.2)⟩⟩
theorem tvOneT_f (d : Dice) (row : Option Nat) (B dep b : Nat) (q : Rw) (t : Tp) (h : MadeT dep t) : (tvOneT d row B dep).f ⟨(b, q, t), h⟩ = .slice (some ⟨b, 0, none⟩) 1 1 := rfl
theorem tvOneT_mk {d : Dice} {row : Option Nat} {B dep : Nat} {q : Rw} {t : Tp} {w : World} {c k : Nat} {P : Program} {Pn : Ending → World → Prop} (hm : MadeT dep t) (hq : IsP (awayT d row B) w q t) (hlow : DcLow d w.heap.size) (hr : ∀ j, row = some j → j < w.heap.size) (h : k ≠ c) :
    oneUpon P (sel (AD d) (fun x y => x.grownBy y row) c k) Pn (tvOneT d row B dep) w (.ok (.value (.slice (some ⟨w.heap.size, 0, none⟩) 1 1)) (w.alloc (.cells #[.string q.name, .slice q.p q.n q.cap] tpT))) := by
  refine ⟨?_, ⟨(w.heap.size, q, t), hm⟩, rfl, cellsAt_alloc w (Rw.cells q) tpT, fun e => ?_, by simp, fun e => ?_, hq.later (below_box w _)⟩
  · unfold sel; rw [if_neg h]; exact Dr.of_below (below_box w _) hlow
  · have := hr _ e.symm; simp only at this; omega
  · have := hlow.1; simp only at e; omega
/-- the list with one more -/
def tvAppT (base : Nat) (R : List Rw) (l : List Tp) (dep : Nat) : TyV := ⟨{x : Value × Rw × Tp // MadeT dep x.2.2}, ⟨⟨(undef, default, tp0), madeT0 _⟩⟩, fun x => x.1.1, fun x w => TRow w base x.1.1 (R ++ [x.1.2.1]) (l ++ [x.1.2.2])⟩
theorem tvAppT_good (d : Dice) (row : Option Nat) (base : Nat) (R : List Rw) (l : List Tp) (dep c : Nat) (hD : d.D < base) : Good (AD d) (fun x y => x.grownBy y row) c c (tvAppT base R l dep) :=
  ⟨fun x w w' hl h => TRow.dr h hl hD (Nat.le_refl _), fun hk => absurd rfl hk⟩
theorem tvAppT_f (base : Nat) (R : List Rw) (l : List Tp) (dep : Nat) (v : Value) (q : Rw) (t : Tp) (h : MadeT dep t) : (tvAppT base R l dep).f ⟨(v, q, t), h⟩ = v := rfl
theorem tvAppT_mk {d : Dice} {row : Option Nat} {base c sb dep : Nat} {R : List Rw} {l : List Tp} {q : Rw} {t : Tp} {v : Value} {w : World} {Pn : Ending → World → Prop} (hm : MadeT dep t) (hv : TRow w base v R l) (hrow : row = v.ownBlock) (hx : CellsAt w sb 0 (Rw.cells q)) (hq : IsP (awayT d row base) w q t) (hl : l.length ≤ 100) (hb : base ≤ w.heap.size) (ty : TypeId) :
    ∃ v' w', (Builtin.append_ #[42, 42] ty #[v, .slice (some ⟨sb, 0, none⟩) 1 1]).run Tryd.prog w = .ok v' w' ∧ oneUpon Tryd.prog (sel (AD d) (fun x y => x.grownBy y row) c c) Pn (tvAppT base R l dep) w (.ok (.value v') w') := by
  obtain ⟨i0, hi0, hz0, hz1, hz2⟩ := info_parts infoTp
  have hRl := hv.len
  obtain ⟨v', w', hr, h2, h3, _, h5⟩ := run_append_own_at (P := Tryd.prog) w base 42 ty tpT i0 (.agg #[.string ⟨#[]⟩, .slice none 0 0]) 2 40 Tryd.underlying42 hi0 hz0 hz1 hz2 rfl (by decide) v R.length (rwEnc.all R) hv.own ⟨sb, 0, none⟩ 1 1 (Rw.cells q) rfl (fun j u hj => by rw [add_lit]; exact hx j u hj) (fun u hu => rwEnc.one q u hu) (by unfold maxLen; omega) (by omega) hb
  refine ⟨v', w', hr, ?_, ⟨(v', q, t), hm⟩, rfl, ?_⟩
  · unfold sel; rw [if_pos rfl, hrow]; exact h3
  · refine hv.push h3 ?_ h5 (hq.mono (fun k hk => ⟨hk.1.1, by rw [← hrow]; exact hk.1.2⟩)) (fun A q t h => h.here)
    unfold OwnL
    rw [List.length_append, rwEnc.all_append, show rwEnc.all [q] = Rw.cells q by simp [Enc.all, rwEnc]]
    exact h2
/-- the Args of a type under way -/
theorem Dr.arg {d : Dice} {yb : Nat} {wx W : World} {s : ByteArray} {v : Value} (h : Dr d (yb + 1) wx.drew W) (hb : wx.heap[yb]? = some (.cells #[.string s, v] tpT (0, 0))) (hD : yb ≠ d.D) (_h : True) : W.cell? ⟨yb, 1, none⟩ = some v := by
  have := h.block yb (Nat.lt_succ_self _) hD
  rw [Lib.cell_of_heap (this.trans hb)]
  rfl
/-- a type under way -/
structure Tb (d : Dice) (w wr : World) (yb : Nat) (s : ByteArray) (v : Value) (R : List Rw) (l : List Tp) : Prop where
  start_good : DiceAt d w
  thrown : Thrown d w wr
  up : w.heap.size < yb
  box : wr.heap[yb]? = some (.cells #[.string s, v] tpT (0, 0))
  res : wr.heap[w.heap.size]? = some (.cells #[.string ⟨#[]⟩, .slice none 0 0] tpT (0, 0))
  row : TRow wr (yb + 1) v R l

theorem strs_lit (w : World) (o : Obj) : Strs (fun s => s ∈ namesT) ((w.alloc o).alloc (.cells #[.string ⟨#[105, 110, 116]⟩, .string ⟨#[98, 111, 111, 108]⟩, .string ⟨#[97, 58, 58, 80]⟩, .string ⟨#[36, 84]⟩, .string ⟨#[36, 85]⟩, .string ⟨#[63, 48]⟩, .string ⟨#[63, 49]⟩, .string ⟨#[63, 50]⟩, .string ⟨#[63, 51]⟩, .string ⟨#[101, 114, 114, 111, 114]⟩, .string ⟨#[97, 58, 58, 66, 111, 120]⟩, .string ⟨#[117, 110, 105, 116]⟩] 9)) (some ⟨w.heap.size + 1, 0, none⟩) 12 := by
  intro i hi
  have hi' : i < namesT.length := hi
  refine ⟨w.heap.size + 1, 0, namesT[i], rfl, ?_, List.getElem_mem hi'⟩
  have h := cellsAt_alloc (w.alloc o) (namesT.map Value.string) 9 i (.string namesT[i]) (by simp [hi'])
  rw [World.size_alloc] at h
  exact h

theorem Tb.start {d : Dice} {w w3 : World} {s : ByteArray} {wA : World} (hd : DiceAt d w) (hta : Thrown d w wA) (hA : wA.heap[w.heap.size]? = some (.cells #[.string ⟨#[]⟩, .slice none 0 0] tpT (0, 0))) (hsz : w.heap.size < wA.heap.size) (hD : d.D < w.heap.size) (ht : Thrown d wA w3) :
    Tb d w (w3.alloc (.cells #[.string s, .slice none 0 0] tpT)) w3.heap.size s (.slice none 0 0) [] [] := by
  have h1 := hta.trans ht
  have h2 := ht.but.size
  have hD3 : d.D < wA.heap.size := by omega
  have hdr := Dr.of_thrown ht hD3
  refine ⟨hd, h1.trans (thrown_allocD h1.good _), by omega, heap_alloc_new w3 _, ?_, TRow.isNil _ _⟩
  have hb := below_box w3 (.cells #[.string s, .slice none 0 0] tpT)
  rw [hb.block _ (by omega), hdr.block _ hsz (by omega)]
  exact hA
theorem Tb.dice {d : Dice} {w wr w5 : World} {yb : Nat} {s : ByteArray} {v : Value} {R : List Rw} {l : List Tp} (h : Tb d w wr yb s v R l) (ht : Thrown d wr w5) (hD : d.D < w.heap.size) : Tb d w w5 yb s v R l := by
  have hs := h.thrown.but.size
  have hup := h.up
  have hd := Dr.of_thrown ht (by omega)
  have hy := heap_lt h.box
  exact ⟨h.start_good, h.thrown.trans ht, hup, box_dr h.box hd (by omega) hy, box_dr h.res hd (by omega) (by omega), h.row.dr hd (by omega) (Nat.le_refl _)⟩
/-- the row with one more is stored into the box -/
theorem Tb.put {d : Dice} {w wx w2 : World} {yb : Nat} {s : ByteArray} {v v' : Value} {R : List Rw} {l : List Tp} {q : Rw} {t : Tp} (h : Tb d w wx yb s v R l) (hlow : DcLow d w.heap.size) (hI : Dr d (yb + 1) wx.drew w2) (hr : TRow w2 (yb + 1) v' (R ++ [q]) (l ++ [t])) :
    Tb d w (w2.setCell ⟨yb, 1, none⟩ v') yb s v' (R ++ [q]) (l ++ [t]) := by
  have hup := h.up
  have hD := hlow.1
  have hb0 : w2.heap[yb]? = some (.cells #[.string s, v] tpT (0, 0)) := (hI.block yb (Nat.lt_succ_self _) (by omega)).trans h.box
  have hr0 : w2.heap[w.heap.size]? = some (.cells #[.string ⟨#[]⟩, .slice none 0 0] tpT (0, 0)) := (hI.block _ (by omega) (by omega)).trans h.res
  have hlow2 : DcLow d (yb + 1) := hlow.mono (by omega)
  have hset := set_dr (d := d) (s0 := yb) (yb := yb) (i := 1) (w := w2) (v := v') (hlow.mono (by omega)) (Nat.le_refl _)
  have h0 : Dr d w.heap.size w wx := Dr.of_thrown h.thrown hD
  have h1 : Dr d w.heap.size wx wx.drew := Dr.of_below ((Below.refl _ _).drew) hlow
  have hall := ((h0.trans h1).trans (hI.mono (by omega))).trans (hset.mono (by omega))
  have hbut : ∀ k, k ≠ yb → (w2.setCell ⟨yb, 1, none⟩ v').heap[k]? = w2.heap[k]? := fun k hk => Below.heap_setCell _ _ _ _ hk
  refine ⟨h.start_good, hall.thrown h.start_good, hup, heap_setCell_same _ _ 1 _ _ v' hb0, (hbut _ (by omega)).trans hr0, ?_⟩
  have hown := hr.own
  have hyr : some yb ≠ v'.ownBlock := fun e => by have := (World.ownsRow.lt hown yb e.symm).1; omega
  refine ⟨World.ownsRow.kept hown ⟨rfl, rfl, rfl, by simp [World.setCell], fun k hk hn => hbut k (fun e => hn (by rw [e]))⟩ (.inr (fun e => hyr e.symm) : v'.ownBlock = none ∨ v'.ownBlock ≠ some yb), hr.len, fun i a b => (hr.at_ i a b).keepB (fun k hk _ => hbut k (by have := hk.1; omega))⟩
theorem TRow.slice {w : World} {base : Nat} {v : Value} {R : List Rw} {l : List Tp} (h : TRow w base v R l) : ∃ p n c, v = .slice p n c := by
  rcases h.own.2 with ⟨rfl, _⟩ | ⟨g, cap, cur, rfl, _⟩
  · exact ⟨_, _, _, rfl⟩
  · exact ⟨_, _, _, rfl⟩
theorem Tb.fin {d : Dice} {w wx : World} {yb : Nat} {s : ByteArray} {p : Option Addr} {n c : Nat} {R : List Rw} {l : List Tp} (h : Tb d w wx yb s (.slice p n c) R l) (hlow : DcLow d w.heap.size) (dep : Nat) (hs : s ∈ namesT) (hl : l.length ≤ 2) (hz : dep = 0 → l = []) (hm : ∀ t ∈ l, MadeT (dep - 1) t) :
    ∃ (q : Rw) (t : Tp), Ending.returned (.agg #[.string s, .slice p n c]) = .returned (.agg #[.string q.name, .slice q.p q.n q.cap]) ∧ IsP (fun k => w.heap.size ≤ k) ((wx.setCell ⟨w.heap.size, 0, none⟩ (.string s)).setCell ⟨w.heap.size, 1, none⟩ (.slice p n c)) q t ∧ MadeT dep t ∧ Thrown d w ((wx.setCell ⟨w.heap.size, 0, none⟩ (.string s)).setCell ⟨w.heap.size, 1, none⟩ (.slice p n c)) := by
  obtain ⟨p', c', e, hp⟩ := h.row.fin
  have hup := h.up
  have h0 : Dr d w.heap.size w wx := Dr.of_thrown h.thrown hlow.1
  have h1 := set_dr (d := d) (s0 := w.heap.size) (yb := w.heap.size) (i := 0) (w := wx) (v := .string s) hlow (Nat.le_refl _)
  have h2 := set_dr (d := d) (s0 := w.heap.size) (yb := w.heap.size) (i := 1) (w := wx.setCell ⟨w.heap.size, 0, none⟩ (.string s)) (v := .slice p n c) hlow (Nat.le_refl _)
  have key : ∀ (W : World) (k : Nat) (v : Value), But (fun a => a.block = w.heap.size) W (W.setCell ⟨w.heap.size, k, none⟩ v) := fun W k v => But.setCell W _ v rfl
  have hbut : But (fun a => a.block = w.heap.size) wx ((wx.setCell ⟨w.heap.size, 0, none⟩ (.string s)).setCell ⟨w.heap.size, 1, none⟩ (.slice p n c)) := (key _ _ _).trans (key _ _ _)
  have hp2 := (hp.but hbut (fun a e k => by have e' : a.block = w.heap.size := e; omega)).mono (A' := fun k => w.heap.size ≤ k) (fun k hk => by omega)
  exact ⟨⟨s, p, n, c⟩, .mk s l, rfl, IsP.node s hp2, .mk dep s l hs hl hz hm, ((h0.trans h1).trans h2).thrown h.start_good⟩

set_option maxHeartbeats 8000000 in
theorem dtype_step (d : Dice) (dep : Nat) (hdep : dep ≤ 100) (w : World) (hd : DiceAt d w)
    (hrec : 0 < dep → ∀ w, DiceAt d w → Calls Tryd.prog 68 #[.pointer (some ⟨d.D, 0, none⟩), .int .i64 ((dep - 1 : Nat) : Int)] w fun e w' => ∃ (q : Rw) (t : Tp), e = .returned (.agg #[.string q.name, .slice q.p q.n q.cap]) ∧ IsP (fun k => w.heap.size ≤ k) w' q t ∧ MadeT (dep - 1) t ∧ Thrown d w w') :
    Calls Tryd.prog 68 #[.pointer (some ⟨d.D, 0, none⟩), .int .i64 (dep : Int)] w fun e w' => ∃ (q : Rw) (t : Tp), e = .returned (.agg #[.string q.name, .slice q.p q.n q.cap]) ∧ IsP (fun k => w.heap.size ≤ k) w' q t ∧ MadeT dep t ∧ Thrown d w w' := by
  have HLW := Lib.hid (dcLow hd)
  have hta := thrown_allocD (thrown_allocD hd (.cells #[.string ⟨#[]⟩, .slice none 0 0] tpT)).good (.cells #[.string ⟨#[105, 110, 116]⟩, .string ⟨#[98, 111, 111, 108]⟩, .string ⟨#[97, 58, 58, 80]⟩, .string ⟨#[36, 84]⟩, .string ⟨#[36, 85]⟩, .string ⟨#[63, 48]⟩, .string ⟨#[63, 49]⟩, .string ⟨#[63, 50]⟩, .string ⟨#[63, 51]⟩, .string ⟨#[101, 114, 114, 111, 114]⟩, .string ⟨#[97, 58, 58, 66, 111, 120]⟩, .string ⟨#[117, 110, 105, 116]⟩] 9)
  have HTA := Lib.hid ((thrown_allocD hd (.cells #[.string ⟨#[]⟩, .slice none 0 0] tpT)).trans hta)
  have hst : Strs (fun s => s ∈ namesT) ((w.alloc (.cells #[.string ⟨#[]⟩, .slice none 0 0] tpT)).alloc (.cells #[.string ⟨#[105, 110, 116]⟩, .string ⟨#[98, 111, 111, 108]⟩, .string ⟨#[97, 58, 58, 80]⟩, .string ⟨#[36, 84]⟩, .string ⟨#[36, 85]⟩, .string ⟨#[63, 48]⟩, .string ⟨#[63, 49]⟩, .string ⟨#[63, 50]⟩, .string ⟨#[63, 51]⟩, .string ⟨#[101, 114, 114, 111, 114]⟩, .string ⟨#[97, 58, 58, 66, 111, 120]⟩, .string ⟨#[117, 110, 105, 116]⟩] 9)) (some ⟨w.heap.size + 1, 0, none⟩) 12 := strs_lit _ _
  have HOF := Lib.hid (ofS_any (fun s => s ∈ namesT) d 12 12 (w.heap.size + 1) 0 _ HTA.out.good (by omega) (by omega) hst (by have := HLW.out.1; omega))
  have HREC := Lib.hid hrec
  have HD := Lib.hid hd
  clear hd hta hst hrec
  go_enter Tryd.func68, Tryd.ntmps68
  go_wp2_with fail
  refine HOF.out.mono ?_
  rintro e w3 ⟨s, hs, rfl, ht3⟩
  have hA0 : ((w.alloc (.cells #[.string ⟨#[]⟩, .slice none 0 0] tpT)).alloc (.cells #[.string ⟨#[105, 110, 116]⟩, .string ⟨#[98, 111, 111, 108]⟩, .string ⟨#[97, 58, 58, 80]⟩, .string ⟨#[36, 84]⟩, .string ⟨#[36, 85]⟩, .string ⟨#[63, 48]⟩, .string ⟨#[63, 49]⟩, .string ⟨#[63, 50]⟩, .string ⟨#[63, 51]⟩, .string ⟨#[101, 114, 114, 111, 114]⟩, .string ⟨#[97, 58, 58, 66, 111, 120]⟩, .string ⟨#[117, 110, 105, 116]⟩] 9)).heap[w.heap.size]? = some (.cells #[.string ⟨#[]⟩, .slice none 0 0] tpT (0, 0)) := by
    rw [(below_box (w.alloc (.cells #[.string ⟨#[]⟩, .slice none 0 0] tpT)) (.cells #[.string ⟨#[105, 110, 116]⟩, .string ⟨#[98, 111, 111, 108]⟩, .string ⟨#[97, 58, 58, 80]⟩, .string ⟨#[36, 84]⟩, .string ⟨#[36, 85]⟩, .string ⟨#[63, 48]⟩, .string ⟨#[63, 49]⟩, .string ⟨#[63, 50]⟩, .string ⟨#[63, 51]⟩, .string ⟨#[101, 114, 114, 111, 114]⟩, .string ⟨#[97, 58, 58, 66, 111, 120]⟩, .string ⟨#[117, 110, 105, 116]⟩] 9)).block w.heap.size (by rw [World.size_alloc]; omega)]
    exact heap_alloc_new w _
  have HT0 := Lib.hid (Tb.start (s := s) HD.out HTA.out hA0 (by rw [World.size_alloc, World.size_alloc]; omega) HLW.out.1 ht3)
  have HS := Lib.hid hs
  clear hA0 hs ht3 HOF HTA
  go_wp2_with fail
  refine (next_any d 3 _ HT0.out.thrown.good (by omega) (by omega)).mono ?_
  rintro e w5 ⟨k0, hk0, rfl, ht5, -⟩
  have HT5 := Lib.hid (HT0.out.dice ht5 HLW.out.1)
  clear ht5 HT0
  go_wp2_with fail
  generalize hyb : w3.heap.size = yb at *
  clear hyb
  go_loopw [6] (fun i wr => ∃ (k : Nat) (v : Value) (R : List Rw) (l : List Tp), i = .int .i64 k ∧ k + l.length ≤ 2 ∧ Hid (Tb d w wr yb s v R l) ∧ Hid (∀ t ∈ l, MadeT (dep - 1) t) ∧ Hid (dep = 0 → l = [])) (fun i _ => (intOf i).toNat)
  case atStart => exact ⟨k0, _, [], [], rfl, by simp; omega, HT5, (fun t h => by cases h), fun _ => rfl⟩
  case round =>
    clear HT5
    obtain ⟨k, v, R, l, rfl, hkl, HT, HM, HZ⟩ := hrel
    obtain ⟨wx, rfl⟩ : ∃ x, x = wr := ⟨wr, rfl⟩
    by_cases hgo : 0 < k ∧ 0 < dep
    · have hki : (0 : Int) < (k : Int) := by omega
      have hdi : (0 : Int) < (dep : Int) := by omega
      have ew : IntKind.i64.wrap ((dep : Int) - 1) = ((dep - 1 : Nat) : Int) := by rw [IntWalk.i64_in _ (by omega)]; omega
      obtain ⟨pz, nz, cz, rfl⟩ := HT.out.row.slice
      have HLOW : Hid (DcLow d (yb + 1)) := HLW.out.mono (by have := HT.out.up; omega)
      have HGD : Hid (DiceAt d wx.drew) := (Dr.of_below ((Below.refl _ _).drew) HLOW.out).good HT.out.thrown.good
      have HSW : Hid (yb + 1 ≤ wx.drew.heap.size) := heap_lt HT.out.box
      have HYB : Hid (yb ≠ d.D) := by have h1 := HLW.out.1; have h2 := HT.out.up; unfold Hid; omega
      have HBX := Lib.hid HT.out.box
      have HLW2 : Hid True := trivial
      obtain ⟨row, hrow⟩ : ∃ row, row = (Value.slice pz nz cz).ownBlock := ⟨_, rfl⟩
      have HRE := Lib.hid hrow
      clear hrow
      have HP0 : Hid (TRow wx.drew (yb + 1) (.slice pz nz cz) R l) := HT.out.row.below (Below.refl _ _).drew
      have HRW : Hid (∀ j, row = some j → yb + 1 ≤ j ∧ j < wx.drew.heap.size) := fun j e => World.ownsRow.lt HP0.out.own j (by rw [← e]; exact HRE.out.symm)
      have HZL : Hid (l.length ≤ 100) := by unfold Hid; omega
      replace HREC := Lib.hid (HREC.out hgo.2)
      have HGO := Lib.hid hgo
      clear hgo
      go_wp2_with fail
      apply wp_region_one 7 9 (AD d) (fun x y => x.grownBy y row) (fun W => Dr d (yb + 1) wx.drew W) (fun W => TRow W (yb + 1) (.slice pz nz cz) R l) (fun _ _ => False)
      case hIA => (intro x y hl h; exact h.trans (hl.mono (Nat.le_trans HSW.out h.size)))
      case hIC => (intro x y hl h; exact h.trans (Dr.of_below ((Below.refl _ _).grown hl (Nat.le_trans HSW.out h.size) (fun k e => (HRW.out k e).1)) HLOW.out))
      case hPA => (intro x y hl h; exact h.dr hl HLOW.out.1 (Nat.le_refl _))
      case hm => kernel_rfl
      case hB => kernel_rfl
      case h0 => exact Dr.refl _ _ _
      case h1 => exact HP0.out
      case hP => (rintro k a' W hf hd; exact hf.elim)
      simp only [List.take_succ_cons, List.take_zero, List.drop_succ_cons, List.drop_zero]
      apply wpOne_cons (t := tvIs _) (tvIs_good _ _)
      case h1 => (intro W hI hl; clear hI hl; unfold oneAt; go_simp; exact one_isD (by decide))
      intro _
      rw [tvIs_f]
      go_simp
      apply wpOne_cons (t := tvIs _) (tvIs_good _ _)
      case h1 => (intro W hI hl; have y1 := hI.arg HBX.out HYB.out HLW2.out; clear hI hl; unfold oneAt; go_simp; exact one_isD (by decide))
      intro _
      rw [tvIs_f]
      go_simp
      apply wpOne_cons (t := tvIs _) (tvIs_good _ _)
      case h1 => (intro W hI hl; clear hI hl; unfold oneAt; go_simp; exact one_isD (by decide))
      intro _
      rw [tvIs_f]
      go_simp
      apply wpOne_cons (t := tvIs _) (tvIs_good _ _)
      case h1 => (intro W hI hl; clear hI hl; unfold oneAt; go_simp; exact one_isD (by decide))
      intro _
      rw [tvIs_f]
      go_simp
      apply wpOne_cons (t := tvIs _) (tvIs_good _ _)
      case h1 => (intro W hI hl; clear hI hl; unfold oneAt; go_simp; exact one_isD (by decide))
      intro _
      rw [tvIs_f]
      go_simp
      apply wpOne_cons (t := tvTp d row (yb + 1) (dep - 1)) (tvTp_good _ _ _ _ _ _)
      case h1 => (intro W hI hl; have hgd := hI.good HGD.out; have hWs : yb + 1 ≤ W.heap.size := Nat.le_trans HSW.out hI.size; have hDW : d.D < W.heap.size := Nat.lt_of_lt_of_le HLOW.out.1 hWs; have hrW : ∀ j, row = some j → j < W.heap.size := (fun j e => Nat.lt_of_lt_of_le (HRW.out j e).2 hI.size); clear hI hl; unfold oneAt; go_simp; refine (HREC.out W hgd).mono ?_; rintro e w'' ⟨q, t, rfl, hq, hm, ht⟩; exact .inl ⟨⟨(q, t), hm⟩, rfl, by unfold sel; rw [if_neg (by decide)]; exact Dr.of_thrown ht hDW, tp_fresh hq hWs hDW hrW⟩)
      rintro ⟨⟨q1, t1⟩, hm1⟩
      rw [tvTp_f]
      go_simp
      apply wpOne_cons (t := tvOneT d row (yb + 1) (dep - 1)) (tvOneT_good _ _ _ _ _ _)
      case h1 => (intro W hI hl; have hx := lean_ofD hl 5 (by kernel_rfl); simp [upd, preAt] at hx; have hx1 : IsP (awayT d row (yb + 1)) W q1 t1 := hx; have hWs : yb + 1 ≤ W.heap.size := Nat.le_trans HSW.out hI.size; have hlo := HLOW.out.mono hWs; have hrW : ∀ j, row = some j → j < W.heap.size := (fun j e => Nat.lt_of_lt_of_le (HRW.out j e).2 hI.size); clear hI hl hx; unfold oneAt; go_simp; exact tvOneT_mk (c := 7) (k := 6) hm1 hx1 hlo hrW (by decide))
      rintro ⟨⟨sb, q2, t2⟩, hm2⟩
      rw [tvOneT_f]
      go_simp
      apply wpOne_cons (t := tvAppT (yb + 1) R l (dep - 1)) (tvAppT_good _ _ _ _ _ _ _ HLOW.out.1)
      case h1 => (
        intro W hI hl
        have hP : TRow W (yb + 1) (.slice pz nz cz) R l := hl.1 rfl
        have hc := lean_ofD hl 6 (by kernel_rfl)
        simp [upd, preAt] at hc
        obtain ⟨v', w', hr, ho⟩ := tvAppT_mk (d := d) (c := 7) (Pn := fun _ _ => False) hm2 hP HRE.out hc.1 hc.2.2.2.2 HZL.out (Nat.le_trans HSW.out hI.size) 42
        clear hI hl hP hc
        exact oneAt_appendS rfl rfl rfl rfl hr ho)
      rintro ⟨⟨v', q3, t3⟩, hm3⟩
      rw [tvAppT_f]
      go_simp
      apply wpOne_cons (t := tvIs _) (tvIs_good _ _)
      case h1 => (intro W hI hl; clear hI hl; unfold oneAt; go_simp; exact one_isD (by decide))
      intro _
      rw [tvIs_f]
      go_simp
      apply wpOne_nil (Ts := [])
      intro w2 hI hF
      have hfin := hF 7
      simp [upd, preAt] at hfin
      have hfin2 : TRow w2 (yb + 1) v' (R ++ [q3]) (l ++ [t3]) := hfin
      clear hfin hF
      have hput := HT.out.put HLW.out hI hfin2
      obtain ⟨pn, nn, cn, rfl⟩ := TRow.slice hfin2
      have HPUT := Lib.hid hput
      have y1 := hI.arg HBX.out HYB.out HLW2.out
      have f1 : w2.frozen? ⟨yb, 1, none⟩ = false := Lib.frozen_of_heap ((hI.block yb (Nat.lt_succ_self _) HYB.out).trans HBX.out) 1
      have HM3 : Hid (MadeT (dep - 1) t3) := hm3
      clear hput hfin2 hI HP0 HRW HT ew
      go_wp2_with fail
      go_roundw
      case rel => exact ⟨k - 1, _, R ++ [q3], l ++ [t3], by go_num, by have := HGO.out.1; simp; omega, HPUT, (fun t ht => by
        rcases List.mem_append.1 ht with h | h
        · exact HM.out t h
        · rw [List.mem_singleton] at h; rw [h]; exact HM3.out), fun e => by have := HGO.out.2; omega⟩
      case measure => have := HGO.out.1; simp [intOf]; omega
    · by_cases hk0 : 0 < k
      · have hki : (0 : Int) < (k : Int) := by omega
        obtain rfl : dep = 0 := by omega
        clear hgo hk0
        obtain ⟨pz, nz, cz, rfl⟩ := HT.out.row.slice
        have hcell := box_store HT.out.res s pz nz cz
        obtain ⟨z0, z1, f0, f1, _, _⟩ := box_facts HT.out.res s pz nz cz
        have y0 : wx.cell? ⟨yb, 0, none⟩ = some (.string s) := by rw [Lib.cell_of_heap HT.out.box]; rfl
        have y1 : wx.cell? ⟨yb, 1, none⟩ = some (.slice pz nz cz) := by rw [Lib.cell_of_heap HT.out.box]; rfl
        have HFIN := Lib.hid (HT.out.fin HLW.out _ HS.out (by omega) HZ.out HM.out)
        clear HT HM HZ
        go_wp2_with fail
        exact bodyPost_ret (results_cellP rfl _ _ _ ⟨w.heap.size, 0, none⟩ _ rfl (load_tp _ _ _ _ _ _ hcell)) rfl HFIN.out
      · obtain rfl : k = 0 := by omega
        clear hgo hk0
        obtain ⟨pz, nz, cz, rfl⟩ := HT.out.row.slice
        have hcell := box_store HT.out.res s pz nz cz
        obtain ⟨z0, z1, f0, f1, _, _⟩ := box_facts HT.out.res s pz nz cz
        have y0 : wx.cell? ⟨yb, 0, none⟩ = some (.string s) := by rw [Lib.cell_of_heap HT.out.box]; rfl
        have y1 : wx.cell? ⟨yb, 1, none⟩ = some (.slice pz nz cz) := by rw [Lib.cell_of_heap HT.out.box]; rfl
        have HFIN := Lib.hid (HT.out.fin HLW.out _ HS.out (by omega) HZ.out HM.out)
        clear HT HM HZ
        go_wp2_with fail
        exact bodyPost_ret (results_cellP rfl _ _ _ ⟨w.heap.size, 0, none⟩ _ rfl (load_tp _ _ _ _ _ _ hcell)) rfl HFIN.out
theorem dtype_any (d : Dice) : ∀ (dep : Nat), dep ≤ 100 → ∀ w, DiceAt d w → Calls Tryd.prog 68 #[.pointer (some ⟨d.D, 0, none⟩), .int .i64 (dep : Int)] w fun e w' => ∃ (q : Rw) (t : Tp), e = .returned (.agg #[.string q.name, .slice q.p q.n q.cap]) ∧ IsP (fun k => w.heap.size ≤ k) w' q t ∧ MadeT dep t ∧ Thrown d w w'
  | 0, h, w, hd => dtype_step d 0 h w hd (fun e => absurd e (Nat.lt_irrefl 0))
  | dep + 1, h, w, hd => dtype_step d (dep + 1) h w hd (fun _ w hd => dtype_any d dep (by omega) w hd)
end Go.Proofs.YthikdkeanndidaaDoor
