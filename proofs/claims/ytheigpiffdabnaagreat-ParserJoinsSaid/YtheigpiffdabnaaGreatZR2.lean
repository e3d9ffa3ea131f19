/-
  CONTRACT: the reference's reader: a type.
-/
import Derived.Test.YtheigpiffdabnaaGreatZR1
set_option linter.unusedSimpArgs false
set_option linter.unusedVariables false
namespace Go.Proofs.YtheigpiffdabnaaGreat
open Go Go.RowKit
theorem RrAt.few {r : Rdr} {σ : Except Nat Nat} {s : Bool} {w : World} (h : RrAt r σ s w) : r.L.length ≤ 20001 := by
 obtain ⟨a, bad, h⟩ := h.in2
 exact h.few
theorem RrAt.lt {r : Rdr} {i : Nat} {s : Bool} {w : World} (h : RrAt r (.ok i) s w) : i < r.L.length := by
 have h' : RrIn r i (-1) s w := h
 exact h'.lt
theorem Up.after {α : Type} {p : PM α} (h : Up p) {i j : Nat} (e : Proofs.YtheigpiffdabnaaGreat.after p (.ok i) = .ok j) : i ≤ j := by
 unfold Proofs.YtheigpiffdabnaaGreat.after at e
 cases hp : p i with
 | error k => simp only [hp] at e; cases e
 | ok z =>
  obtain ⟨x, m⟩ := z
  simp only [hp, Except.ok.injEq] at e
  subst e
  exact h i x m hp
end Go.Proofs.YtheigpiffdabnaaGreat
namespace Go.Proofs.YtheigpiffdabnaaGreat
open Go Go.RowKit
theorem at_ok {α β : Type} {p : PM α} {f : α → PM β} {i j : Nat} {x : α} (h : p i = .ok (x, j)) : bindM p f i = f x j := by unfold bindM; rw [h]
theorem at_err {α β : Type} {p : PM α} {f : α → PM β} {i k : Nat} (h : p i = .error k) : bindM p f i = .error k := by unfold bindM; rw [h]
theorem tk_yes {r : Rdr} {sg : ByteArray} {i : Nat} (h : isMark r i sg = true) : tookM r sg i = .ok (true, i + 1) := by unfold tookM; rw [if_pos h]
theorem tk_no {r : Rdr} {sg : ByteArray} {i : Nat} (h : ¬ isMark r i sg = true) : tookM r sg i = .ok (false, i) := by unfold tookM; rw [if_neg h]
theorem nd_yes {r : Rdr} {sg : ByteArray} {i : Nat} (h : isMark r i sg = true) : needM r sg i = .ok ((), i + 1) := by unfold needM; rw [if_pos h]
theorem nd_no {r : Rdr} {sg : ByteArray} {i : Nat} (h : ¬ isMark r i sg = true) : needM r sg i = .error i := by unfold needM; rw [if_neg h]
theorem nm_yes {r : Rdr} {i : Nat} (h : (r.L.getD i tok0).kind = 1) : nameM r i = .ok ((r.L.getD i tok0).text, i + 1) := by unfold nameM; rw [if_pos h]
theorem nm_no {r : Rdr} {i : Nat} (h : ¬ (r.L.getD i tok0).kind = 1) : nameM r i = .error i := by unfold nameM; rw [if_neg h]
end Go.Proofs.YtheigpiffdabnaaGreat
namespace Go.Proofs.YtheigpiffdabnaaGreat
open Go Go.RowKit
section
variable {r : Rdr} {ob : Option Nat} {ic ia k : Nat} {wr : World} {P : Program} {Pn : Ending → World → Prop} {σ : Except Nat Nat} {s : Bool} {p : PM Tree} {A : Nat → Prop}
/-- a node, of blocks of A -/
def tyNodeA (A : Nat → Prop) (G : Tree → Prop) : TyV := ⟨Raw × Tree, ⟨(default, default)⟩, fun x => .agg (ndC x.1), fun x W => IsT A W x.1 x.2 ∧ G x.2⟩
/-- nodes in a row -/
def tyRowA (A : Nat → Prop) (n : Nat) (G : List Tree → Prop) : TyV := ⟨Nat × List Tree, ⟨(0, [])⟩, fun x => .slice (some ⟨x.1, 0, none⟩) n n, fun x W => IsTs A W (.slice (some ⟨x.1, 0, none⟩) n n) x.2 ∧ G x.2⟩
theorem tyNodeA_f (G : Tree → Prop) (q : Raw) (t : Tree) : (tyNodeA A G).f (q, t) = .agg (ndC q) := rfl
theorem tyRowA_f (n : Nat) (G : List Tree → Prop) (g : Nat) (l : List Tree) : (tyRowA A n G).f (g, l) = .slice (some ⟨g, 0, none⟩) n n := rfl
/-- trees that were there stay all along -/
theorem InvX.tree {w0 W : World} {q : Raw} {t : Tree} (hI : InvX r w0 ob wr W) (h : IsT A wr q t) (hA : ∀ b, A b → b ≠ r.b ∧ ob ≠ some b) : IsT A W q t :=
 h.same (M := fun a => a.block = r.b ∨ ob = some a.block) (fun a v hc hm => by
  have hb := World.block_lt_of_cell? wr _ hc
  rw [World.cell?_of_block (hI.block a.block hb (fun e => hm (.inl e)) (fun e => hm (.inr e)))]
  exact hc) (fun a e q => by
   rcases e with e | e
   ·exact (hA _ q).1 e
   ·exact (hA _ q).2 e)
end
/-- a variable that holds a node -/
structure Var (r : Rdr) (w0 : World) (g : Nat) (q : Raw) (t : Tree) (W : World) : Prop where
 box : BoxAt r w0 g q W
 tree : IsT (since w0 g) W q t
theorem Var.on {r : Rdr} {w0 : World} {g : Nat} {q : Raw} {t : Tree} {W W' : World} (h : Var r w0 g q t W) (hm : Mv r W W') : Var r w0 g q t W' :=
 ⟨h.box.mvB hm h.box.old, h.tree.mvG hm (fun b hb => by have := hb.1; have := h.box.old; omega)⟩
theorem Var.first {r : Rdr} {w0 : World} {σ : Except Nat Nat} {s : Bool} {W : World} {q : Raw} {t : Tree} (h : St r w0 σ s W) (ht : IsT (fun b => w0.heap.size < b) W q t) :
  Var r w0 W.heap.size q t (W.alloc (.cells (ndC q) 37)) :=
 ⟨⟨heap_alloc_new W _, lt_heap h.res.z, h.rb⟩, (ht.old.later (boxB W _)).mono (fun b hb => ⟨hb.1, by omega⟩)⟩
theorem Var.val {r : Rdr} {w0 : World} {g : Nat} {q : Raw} {t : Tree} {W : World} (h : Var r w0 g q t W) : IsT (fun b => w0.heap.size < b) W q t := h.tree.mono (fun b hb => hb.1)
theorem Var.inv {r : Rdr} {w0 : World} {g : Nat} {q : Raw} {t : Tree} {wr W : World} (h : Var r w0 g q t wr) (hI : InvX r w0 none wr W) : Var r w0 g q t W :=
 ⟨hI.box h.box (fun e => by cases e), hI.tree h.tree (fun b hb => ⟨by have := hb.1; have := h.box.old; omega, fun e => by cases e⟩)⟩
/-- another node, which was made since -/
theorem Var.store {r : Rdr} {w0 : World} {g : Nat} {q q' : Raw} {t t' : Tree} {W : World} {σ : Except Nat Nat} {s : Bool} (h : Var r w0 g q t W) (hs : St r w0 σ s W) (ht : IsT (since w0 g) W q' t') :
  St r w0 σ s ((((W.setCell ⟨g, 0, none⟩ (.int .i64 q'.kind)).setCell ⟨g, 1, none⟩ (.string q'.text)).setCell ⟨g, 2, none⟩ (.int .i64 q'.at_)).setCell ⟨g, 3, none⟩ (.slice q'.p q'.n q'.cap)) ∧
  Var r w0 g q' t' ((((W.setCell ⟨g, 0, none⟩ (.int .i64 q'.kind)).setCell ⟨g, 1, none⟩ (.string q'.text)).setCell ⟨g, 2, none⟩ (.int .i64 q'.at_)).setCell ⟨g, 3, none⟩ (.slice q'.p q'.n q'.cap)) := by
 have hg := h.box.new
 have key : ∀ (W : World) (k : Nat) (v : Value), But (fun a => a.block = g) W (W.setCell ⟨g, k, none⟩ v) := fun W k v => But.setCell W _ v rfl
 have bb := (((key W 0 (.int .i64 q'.kind)).trans (key _ 1 (.string q'.text))).trans (key _ 2 (.int .i64 q'.at_))).trans (key _ 3 (.slice q'.p q'.n q'.cap))
 refine ⟨(((hs.poke g 0 _ hg).poke g 1 _ hg).poke g 2 _ hg).poke g 3 _ hg, ⟨heap_setCell_same _ _ _ _ _ _ (heap_setCell_same _ _ _ _ _ _ (heap_setCell_same _ _ _ _ _ _ (heap_setCell_same _ _ _ _ _ _ h.box.z))), hg, h.box.old⟩, ht.but bb (fun a e q => q.2 e)⟩
-- marks between operands
-- signs between operands
end Go.Proofs.YtheigpiffdabnaaGreat
namespace Go.Proofs.YtheigpiffdabnaaGreat
open Go Go.RowKit
end Go.Proofs.YtheigpiffdabnaaGreat
namespace Go.Proofs.YtheigpiffdabnaaGreat
open Go Go.RowKit
theorem UpS.after {α : Type} {p : PM α} (h : UpS p) {i j : Nat} (e : Proofs.YtheigpiffdabnaaGreat.after p (.ok i) = .ok j) : i < j := by
 unfold Proofs.YtheigpiffdabnaaGreat.after at e
 cases hp : p i with
 | error k => simp only [hp] at e; cases e
 | ok z =>
  obtain ⟨x, m⟩ := z
  simp only [hp, Except.ok.injEq] at e
  subst e
  exact h i x m hp
end Go.Proofs.YtheigpiffdabnaaGreat
namespace Go.Proofs.YtheigpiffdabnaaGreat
open Go Go.RowKit
end Go.Proofs.YtheigpiffdabnaaGreat
namespace Go.Proofs.YtheigpiffdabnaaGreat
open Go Go.RowKit
structure St0 (r : Rdr) (w0 : World) (σ : Except Nat Nat) (s : Bool) (W : World) : Prop where
 rr : RrAt r σ s W
 mv : Mv r w0 W
 rb : r.b < w0.heap.size
theorem St0.on {r : Rdr} {w0 : World} {σ σ' : Except Nat Nat} {s : Bool} {W W' : World} (h : St0 r w0 σ s W) (hr : RrAt r σ' s W') (hm : Mv r W W') : St0 r w0 σ' s W' := ⟨hr, h.mv.trans hm, h.rb⟩
end Go.Proofs.YtheigpiffdabnaaGreat
