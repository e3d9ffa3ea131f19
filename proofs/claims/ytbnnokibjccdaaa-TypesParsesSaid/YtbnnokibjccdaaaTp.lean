/-
  LAWS: types (a name and a list of types) as they lie in memory.
-/
import Derived.Test.YtbnnokibjccdaaaBase
import Derived.Test.YtbnnokibjccdaaaBut
namespace Go.Proofs.Ytbnnokibjccdaaa
open Go Go.RowKit
set_option linter.unusedVariables false

theorem SlIs.butN {α : Type} {E : Enc α} {M : Addr → Prop} {w w' : World} {p : Option Addr} {n cap : Nat} {L : List α} (h : SlIs E w (.slice p n cap) L) (hb : ∀ a v, w.cell? a = some v → ¬ M a → w'.cell? a = some v) (hm : ∀ b o i, p = some ⟨b, o, none⟩ → 0 < n → ¬ M ⟨b, i, none⟩) : SlIs E w' (.slice p n cap) L := by
  obtain ⟨hn, h2, h3, h4⟩ := h.lies
  subst hn
  refine ⟨p, cap, rfl, h2, h3, fun h0 => ?_⟩
  obtain ⟨b, off, e, hc⟩ := h4 h0
  exact ⟨b, off, e, fun j v hv => hb _ _ (hc j v hv) (hm b off _ e h0)⟩
/-- a type -/
inductive Tp where
  | mk (name : ByteArray) (args : List Tp)
namespace Tp
def name : Tp → ByteArray | mk s _ => s
def args : Tp → List Tp | mk _ l => l
end Tp
instance : Inhabited Tp := ⟨.mk ByteArray.empty []⟩
/-- a type as it lies: its list is a slice -/
structure Rw where
  name : ByteArray
  p : Option Addr
  n : Nat
  cap : Nat
instance : Inhabited Rw := ⟨⟨ByteArray.empty, none, 0, 0⟩⟩
def Rw.cells (r : Rw) : List Value := [.string r.name, .slice r.p r.n r.cap]
def rwEnc : Enc Rw where
  cells := Rw.cells
  size := 2
  len := fun _ => rfl
  one := fun r v hv => by
    simp only [Rw.cells, List.mem_cons, List.not_mem_nil, or_false] at hv
    rcases hv with rfl | rfl <;> rfl
  pos := by decide
/-- what lies there is this type; all of its lists lie in blocks of A -/
inductive IsP (A : Nat → Prop) (w : World) : Rw → Tp → Prop
  | mk (s : ByteArray) (p : Option Addr) (n cap : Nat) (R : List Rw) (l : List Tp) : SlIs rwEnc w (.slice p n cap) R → (p = none → cap = 0) → (∀ b o, p = some ⟨b, o, none⟩ → 0 < n → A b) → R.length = l.length →
      (∀ i (h1 : i < R.length) (h2 : i < l.length), IsP A w R[i] l[i]) → IsP A w ⟨s, p, n, cap⟩ (.mk s l)
/-- a slice of types -/
def IsPs (A : Nat → Prop) (w : World) (v : Value) (l : List Tp) : Prop := ∃ (p : Option Addr) (n cap : Nat) (R : List Rw), v = .slice p n cap ∧ SlIs rwEnc w (.slice p n cap) R ∧ (p = none → cap = 0) ∧ (∀ b o, p = some ⟨b, o, none⟩ → 0 < n → A b) ∧ R.length = l.length ∧ ∀ i (h1 : i < R.length) (h2 : i < l.length), IsP A w R[i] l[i]
theorem IsP.but {A : Nat → Prop} {M : Addr → Prop} {w w' : World} {r : Rw} {t : Tp} (h : IsP A w r t) (hb : But M w w') (hM : ∀ a, M a → ¬ A a.block) : IsP A w' r t := by
  induction h with
  | mk s p n cap R l hs hp hA hl _ ih => exact .mk s p n cap R l (SlIs.butN hs (fun _ _ hc hm => hb.keep hc hm) (fun b o i e h0 q => hM _ q (hA b o e h0))) hp hA hl ih
theorem IsPs.but {A : Nat → Prop} {M : Addr → Prop} {w w' : World} {v : Value} {l : List Tp} (h : IsPs A w v l) (hb : But M w w') (hM : ∀ a, M a → ¬ A a.block) : IsPs A w' v l := by
  obtain ⟨p, n, cap, R, e, h1, h2, h3, h4, h5⟩ := h
  exact ⟨p, n, cap, R, e, SlIs.butN h1 (fun _ _ hc hm => hb.keep hc hm) (fun b o i e h0 q => hM _ q (h3 b o e h0)), h2, h3, h4, fun i a b => (h5 i a b).but hb hM⟩
theorem IsP.mono {A A' : Nat → Prop} {w : World} {r : Rw} {t : Tp} (h : IsP A w r t) (hA : ∀ b, A b → A' b) : IsP A' w r t := by
  induction h with
  | mk s p n cap R l hs hp hb hl _ ih => exact .mk s p n cap R l hs hp (fun b o e h0 => hA b (hb b o e h0)) hl ih
theorem IsPs.mono {A A' : Nat → Prop} {w : World} {v : Value} {l : List Tp} (h : IsPs A w v l) (hA : ∀ b, A b → A' b) : IsPs A' w v l := by
  obtain ⟨p, n, cap, R, e, h1, h2, h3, h4, h5⟩ := h
  exact ⟨p, n, cap, R, e, h1, h2, fun b o e h0 => hA b (h3 b o e h0), h4, fun i a b => (h5 i a b).mono hA⟩
theorem IsP.later {A : Nat → Prop} {w w' : World} {r : Rw} {t : Tp} (h : IsP A w r t) (hb : Below w.heap.size w w') : IsP A w' r t := h.but (M := fun _ => False) (But.of_below hb) (fun a q => q.elim)
theorem IsPs.later {A : Nat → Prop} {w w' : World} {v : Value} {l : List Tp} (h : IsPs A w v l) (hb : Below w.heap.size w w') : IsPs A w' v l := h.but (M := fun _ => False) (But.of_below hb) (fun a q => q.elim)
theorem IsPs.isNil (A : Nat → Prop) (w : World) : IsPs A w (.slice none 0 0) [] := ⟨none, 0, 0, [], rfl, SlIs.isNil rwEnc w, fun _ => rfl, (fun _ _ e => by cases e), rfl, fun i h => absurd h (by simp)⟩
theorem IsP.leaf (A : Nat → Prop) (w : World) (s : ByteArray) : IsP A w ⟨s, none, 0, 0⟩ (.mk s []) :=
  .mk s none 0 0 [] [] (SlIs.isNil rwEnc w) (fun _ => rfl) (fun _ _ e => by cases e) rfl (fun i h => absurd h (by simp))
theorem IsP.node {A : Nat → Prop} {w : World} {p : Option Addr} {n cap : Nat} {l : List Tp} (s : ByteArray) (h : IsPs A w (.slice p n cap) l) : IsP A w ⟨s, p, n, cap⟩ (.mk s l) := by
  obtain ⟨p', n', cap', R, e, h1, h2, h3, h4, h5⟩ := h
  cases e
  exact .mk s p n cap R l h1 h2 h3 h4 h5
theorem IsP.parts {A : Nat → Prop} {w : World} {r : Rw} {t : Tp} (h : IsP A w r t) : r.name = t.name ∧ IsPs A w (.slice r.p r.n r.cap) t.args := by
  cases h with
  | mk s p n cap R l h1 h2 h3 h4 h5 => exact ⟨rfl, ⟨p, n, cap, R, rfl, h1, h2, h3, h4, h5⟩⟩
/-- the cells of a type -/
structure PAt (w : World) (b o : Nat) (r : Rw) : Prop where
  c0 : w.cell? ⟨b, o, none⟩ = some (.string r.name)
  c1 : w.cell? ⟨b, o + 1, none⟩ = some (.slice r.p r.n r.cap)
theorem PAt.below {w w' : World} {b o : Nat} {r : Rw} (h : PAt w b o r) (hb : Below w.heap.size w w') : PAt w' b o r :=
  ⟨by rw [hb.cell (World.block_lt_of_cell? w _ h.c0)]; exact h.c0, by rw [hb.cell (World.block_lt_of_cell? w _ h.c1)]; exact h.c1⟩
/-- the type at a place of a list -/
theorem IsPs.at_ {A : Nat → Prop} {w : World} {p : Option Addr} {n cap : Nat} {l : List Tp} (h : IsPs A w (.slice p n cap) l) : n = l.length ∧ n ≤ maxLen ∧ ∀ j, (hj : j < l.length) → ∃ (b off : Nat) (r : Rw), p = some ⟨b, off, none⟩ ∧ IsP A w r l[j] ∧ PAt w b (off + j * 2) r := by
  obtain ⟨p', n', cap', R, e, h1, _, _, h2, h3⟩ := h
  cases e
  obtain ⟨hn, hnc, hcm, hl⟩ := h1.lies
  refine ⟨by omega, by omega, fun j hj => ?_⟩
  have hjR : j < R.length := by omega
  obtain ⟨b, off, e, hc⟩ := hl (by omega)
  exact ⟨b, off, R[j], e, h3 j hjR hj, hc.elem j hjR 0 (by decide) _ rfl, hc.elem j hjR 1 (by decide) _ rfl⟩
theorem IsPs.shape {A : Nat → Prop} {w : World} {v : Value} {l : List Tp} (h : IsPs A w v l) : ∃ p cap, v = .slice p l.length cap ∧ IsPs A w (.slice p l.length cap) l := by
  obtain ⟨p, n, cap, R, rfl, h1, h2, h3, h4, h5⟩ := h
  have hn := (h1.lies).1
  have e : n = l.length := by omega
  subst e
  exact ⟨p, cap, rfl, ⟨p, _, cap, R, rfl, h1, h2, h3, h4, h5⟩⟩
end Go.Proofs.Ytbnnokibjccdaaa
