/-
  CONTRACT: the reference's reader: primary.
-/
import Derived.Test.YtheigpiffdabnaaGreatZR2
import Derived.Test.YtheigpiffdabnaaGreatZA8
set_option linter.unusedSimpArgs false
set_option linter.unusedVariables false
namespace Go.Proofs.YtheigpiffdabnaaGreat
open Go Go.RowKit
theorem TokBox.on {r : Rdr} {w0 : World} {g : Nat} {x : Lx.Tok} {W W' : World} (h : TokBox r w0 g x W) (hm : Mv r W W') : TokBox r w0 g x W' := h.mvB hm h.old
theorem InvX.tok {r : Rdr} {w0 wr W : World} {ob : Option Nat} {g : Nat} {x : Lx.Tok} (h : InvX r w0 ob wr W) (hb : TokBox r w0 g x wr) (hg : ob ≠ some g) : TokBox r w0 g x W :=
 ⟨by rw [h.block g (lt_heap hb.z) (by have := hb.new; have := hb.old; omega) hg]; exact hb.z, hb.new, hb.old⟩
section
variable {r : Rdr} {ob : Option Nat} {ic ia k : Nat} {wr : World} {P : Program} {Pn : Ending → World → Prop} {σ : Except Nat Nat} {s : Bool} {p : PM (List Tree)}
end
end Go.Proofs.YtheigpiffdabnaaGreat
namespace Go.Proofs.YtheigpiffdabnaaGreat
open Go Go.RowKit
-- a variable's block is written beside a list that was there
def Sk (r : Rdr) (g : Nat) (W W' : World) : Prop := But (fun a => a.block = r.b ∨ a.block = g) W W'
theorem Sk.on {r : Rdr} {g : Nat} {W W' W2 : World} (h : Sk r g W W') (hm : Mv r W' W2) : Sk r g W W2 := But.trans h (But.mono hm (fun _ q => .inl q))
theorem Sk.poke {r : Rdr} {g : Nat} {W W' : World} (h : Sk r g W W') (k : Nat) (v : Value) : Sk r g W (W'.setCell ⟨g, k, none⟩ v) := But.trans h (But.setCell _ _ _ (.inr rfl))
/-- the variable's text -/
theorem Var.text {r : Rdr} {w0 : World} {g : Nat} {k : Int} {t : ByteArray} {a : Int} {p : Option Addr} {n c : Nat} {l : List Tree} {W : World} (h : Var r w0 g ⟨k, t, a, p, n, c⟩ (.mk k t a l) W) (t' : ByteArray) : Var r w0 g ⟨k, t', a, p, n, c⟩ (.mk k t' a l) (W.setCell ⟨g, 1, none⟩ (.string t')) := by
 have key : But (fun a => a.block = g) W (W.setCell ⟨g, 1, none⟩ (.string t')) := But.setCell W _ _ rfl
 obtain ⟨_, _, _, hk⟩ := h.tree.parts
 exact ⟨⟨heap_setCell_same _ _ _ _ _ _ h.box.z, h.box.new, h.box.old⟩, (IsT.node k t' a hk).but key (fun x e q => q.2 e)⟩
/-- the variable's nodes -/
theorem Var.kids {r : Rdr} {w0 : World} {g : Nat} {k : Int} {t : ByteArray} {a : Int} {p p' : Option Addr} {n c n' c' : Nat} {l l' : List Tree} {W : World} (h : Var r w0 g ⟨k, t, a, p, n, c⟩ (.mk k t a l) W) (hl : IsTs (since w0 g) W (.slice p' n' c') l') : Var r w0 g ⟨k, t, a, p', n', c'⟩ (.mk k t a l') (W.setCell ⟨g, 3, none⟩ (.slice p' n' c')) := by
 have key : But (fun a => a.block = g) W (W.setCell ⟨g, 3, none⟩ (.slice p' n' c')) := But.setCell W _ _ rfl
 exact ⟨⟨heap_setCell_same _ _ _ _ _ _ h.box.z, h.box.new, h.box.old⟩, (IsT.node k t a hl).but key (fun x e q => q.2 e)⟩
/-- a variable whose node is of blocks behind its own -/
structure VarB (r : Rdr) (w0 : World) (g : Nat) (q : Raw) (t : Tree) (W : World) : Prop where
 box : BoxAt r w0 g q W
 tree : IsT (fun b => g < b) W q t
theorem VarB.on {r : Rdr} {w0 : World} {g : Nat} {q : Raw} {t : Tree} {W W' : World} (h : VarB r w0 g q t W) (hm : Mv r W W') : VarB r w0 g q t W' :=
 ⟨h.box.mvB hm h.box.old, h.tree.mvG hm (fun b hb => by have := h.box.new; have := h.box.old; omega)⟩
theorem VarB.first {r : Rdr} {w0 : World} {σ : Except Nat Nat} {s : Bool} {W : World} (k : Int) (t : ByteArray) (a : Int) (h : St r w0 σ s W) :
  VarB r w0 W.heap.size ⟨k, t, a, none, 0, 0⟩ (.mk k t a []) (W.alloc (.cells (ndC ⟨k, t, a, none, 0, 0⟩) 37)) :=
 ⟨⟨heap_alloc_new W _, lt_heap h.res.z, h.rb⟩, IsT.leaf _ _ _ _ _⟩
theorem VarB.text {r : Rdr} {w0 : World} {g : Nat} {k : Int} {t : ByteArray} {a : Int} {p : Option Addr} {n c : Nat} {l : List Tree} {W : World} (h : VarB r w0 g ⟨k, t, a, p, n, c⟩ (.mk k t a l) W) (t' : ByteArray) : VarB r w0 g ⟨k, t', a, p, n, c⟩ (.mk k t' a l) (W.setCell ⟨g, 1, none⟩ (.string t')) := by
 have key : But (fun a => a.block = g) W (W.setCell ⟨g, 1, none⟩ (.string t')) := But.setCell W _ _ rfl
 obtain ⟨_, _, _, hk⟩ := h.tree.parts
 exact ⟨⟨heap_setCell_same _ _ _ _ _ _ h.box.z, h.box.new, h.box.old⟩, (IsT.node k t' a hk).but key (fun x e q => by have e2 : x.block = g := e; omega)⟩
theorem VarB.kids {r : Rdr} {w0 : World} {g : Nat} {k : Int} {t : ByteArray} {a : Int} {p p' : Option Addr} {n c n' c' : Nat} {l l' : List Tree} {W : World} (h : VarB r w0 g ⟨k, t, a, p, n, c⟩ (.mk k t a l) W) (hl : IsTs (fun b => g < b) W (.slice p' n' c') l') : VarB r w0 g ⟨k, t, a, p', n', c'⟩ (.mk k t a l') (W.setCell ⟨g, 3, none⟩ (.slice p' n' c')) := by
 have key : But (fun a => a.block = g) W (W.setCell ⟨g, 3, none⟩ (.slice p' n' c')) := But.setCell W _ _ rfl
 exact ⟨⟨heap_setCell_same _ _ _ _ _ _ h.box.z, h.box.new, h.box.old⟩, (IsT.node k t a hl).but key (fun x e q => by have e2 : x.block = g := e; omega)⟩
/-- it has gone on at least to there -/
def Geq (i : Nat) (σ : Except Nat Nat) : Prop := ∀ j, σ = .ok j → i ≤ j
theorem Geq.after {α : Type} {p : PM α} {i : Nat} {σ : Except Nat Nat} (h : Geq i σ) (hp : Up p) : Geq i (Proofs.YtheigpiffdabnaaGreat.after p σ) := fun j e => by
 cases σ with
 | error k => cases e
 | ok m => have h1 := h m rfl; have h2 := hp.after e; omega
theorem Geq.here (i : Nat) : Geq i (.ok i) := fun j e => by cases e; exact Nat.le_refl _
end Go.Proofs.YtheigpiffdabnaaGreat
namespace Go.Proofs.YtheigpiffdabnaaGreat
open Go Go.RowKit
def Sk2 (r : Rdr) (N : Nat) (W W' : World) : Prop := But (fun a => a.block = r.b ∨ N ≤ a.block) W W'
theorem Sk2.on {r : Rdr} {N : Nat} {W W' W2 : World} (h : Sk2 r N W W') (hm : Mv r W' W2) : Sk2 r N W W2 := But.trans h (But.mono hm (fun _ q => .inl q))
theorem Sk2.poke {r : Rdr} {N : Nat} {W W' : World} (h : Sk2 r N W W') (g k : Nat) (v : Value) (hg : N ≤ g) : Sk2 r N W (W'.setCell ⟨g, k, none⟩ v) := But.trans h (But.setCell _ _ _ (.inr hg))
end Go.Proofs.YtheigpiffdabnaaGreat
namespace Go.Proofs.YtheigpiffdabnaaGreat
open Go Go.RowKit
end Go.Proofs.YtheigpiffdabnaaGreat
namespace Go.Proofs.YtheigpiffdabnaaGreat
open Go Go.RowKit
structure VarA (A : Nat → Prop) (r : Rdr) (w0 : World) (g : Nat) (q : Raw) (t : Tree) (W : World) : Prop where
 box : BoxAt r w0 g q W
 tree : IsT A W q t
theorem VarA.first {A : Nat → Prop} {r : Rdr} {w0 : World} {σ : Except Nat Nat} {s : Bool} {W : World} {q : Raw} {t : Tree} (h : St r w0 σ s W) (ht : IsT A W q t) : VarA A r w0 W.heap.size q t (W.alloc (.cells (ndC q) 37)) :=
 ⟨⟨heap_alloc_new W _, lt_heap h.res.z, h.rb⟩, ht.later (boxB W _)⟩
theorem VarA.on {A : Nat → Prop} {r : Rdr} {w0 : World} {g : Nat} {q : Raw} {t : Tree} {W W' : World} (h : VarA A r w0 g q t W) (hA : ∀ b, A b → b ≠ r.b) (hm : Mv r W W') : VarA A r w0 g q t W' := ⟨h.box.mvB hm h.box.old, h.tree.mvG hm hA⟩
theorem Sx.rr {r : Rdr} {w0 : World} {σ : Except Nat Nat} {s : Bool} {W : World} (h : St r w0 σ s W) : RrAt r σ s W := h.rr
end Go.Proofs.YtheigpiffdabnaaGreat
