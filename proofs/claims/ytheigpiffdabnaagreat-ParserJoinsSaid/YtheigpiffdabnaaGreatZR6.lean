/-
  PLAIN: the items as the reference reads them are the program's.
-/
import Derived.Test.YtheigpiffdabnaaGreatZR4
import Derived.Test.YtheigpiffdabnaaGreatZA11
import Derived.Test.YtheigpiffdabnaaGreatZR3
set_option linter.unusedSimpArgs false
set_option linter.unusedVariables false
namespace Go.Proofs.YtheigpiffdabnaaGreat
open Go Go.RowKit
-- the items
def useR (r : Rdr) : PM Tree := bindM (hereM r) fun a => bindM (needM r ⟨#[117, 115, 101]⟩) fun _ => bindM (nameM r) fun nm => bindM (needM r ⟨#[59]⟩) fun _ => ndM 1 nm a []
theorem useR_eq (r : Rdr) : useR r = useP r := by
 funext i
 unfold useR useP usedP
 have h1 : hereM r i = .ok ((r.L.getD i tok0).at_, i) := rfl
 rw [at_ok h1]
 by_cases hm : isMark r i ⟨#[117, 115, 101]⟩ = true
 ·rw [at_ok (nd_yes hm), if_pos hm]
  by_cases hk : (r.L.getD (i + 1) tok0).kind = 1
  ·rw [at_ok (nm_yes hk), if_pos hk]
   by_cases hs : isMark r (i + 2) ⟨#[59]⟩ = true
   ·rw [at_ok (nd_yes hs), if_pos hs]; rfl
   ·rw [at_err (nd_no hs), if_neg hs]
  ·rw [at_err (nm_no hk), if_neg hk]
 ·rw [at_err (nd_no hm), if_neg hm]
def pubR (r : Rdr) : PM Tree := bindM (hereM r) fun a => bindM (needM r ⟨#[112, 117, 98]⟩) fun _ => bindM (needM r ⟨#[117, 115, 101]⟩) fun _ => bindM (nameM r) fun nm => bindM (needM r ⟨#[59]⟩) fun _ => ndM 2 nm a []
theorem pubR_eq (r : Rdr) : pubR r = pubUseP r := by
 funext i
 unfold pubR pubUseP usedP
 have h1 : hereM r i = .ok ((r.L.getD i tok0).at_, i) := rfl
 rw [at_ok h1]
 by_cases hp : isMark r i ⟨#[112, 117, 98]⟩ = true
 ·rw [at_ok (nd_yes hp), if_pos hp]
  by_cases hm : isMark r (i + 1) ⟨#[117, 115, 101]⟩ = true
  ·rw [at_ok (nd_yes hm), if_pos hm]
   by_cases hk : (r.L.getD (i + 1 + 1) tok0).kind = 1
   ·rw [at_ok (nm_yes hk), if_pos hk]
    by_cases hs : isMark r (i + 1 + 2) ⟨#[59]⟩ = true
    ·rw [at_ok (nd_yes hs), if_pos hs]; rfl
    ·rw [at_err (nd_no hs), if_neg hs]
   ·rw [at_err (nm_no hk), if_neg hk]
  ·rw [at_err (nd_no hm), if_neg hm]
 ·rw [at_err (nd_no hp), if_neg hp]
-- an item by its first token
/-- the contract speaks of the plain reader at one place alone -/
theorem RrPost.same {r : Rdr} {p p' : PM Tree} {i : Nat} {s : Bool} {w w' : World} {e : Ending} (h : RrPost r p (.ok i) s w e w') (he : p i = p' i) : RrPost r p' (.ok i) s w e w' := by
 obtain ⟨q, t, h1, h2, h3, h4, h5⟩ := h
 refine ⟨q, t, h1, h2, ?_, h4, fun j y m e2 hy => ?_⟩
 ·have : after p (.ok i) = after p' (.ok i) := by unfold after; dsimp only; rw [he]
  rw [← this]; exact h3
 ·cases e2
  rw [← he] at hy
  exact h5 i y m rfl hy
end Go.Proofs.YtheigpiffdabnaaGreat
namespace Go.Proofs.YtheigpiffdabnaaGreat
open Go Go.RowKit
end Go.Proofs.YtheigpiffdabnaaGreat
namespace Go.Proofs.YtheigpiffdabnaaGreat
open Go Go.RowKit
/-- trees in a list of one's own, beside a variable's block -/
def Nodes2 (B g : Nat) (w : World) (v : Value) (ts : List Tree) : Prop := ∃ R : List Raw, OwnL rawEnc 37 w B v R ∧ v.ownBlock ≠ some g ∧ R.length = ts.length ∧ ∀ i (h1 : i < R.length) (h2 : i < ts.length), IsT (fun b => (B ≤ b ∧ b ≠ g) ∧ v.ownBlock ≠ some b) w R[i] ts[i]
theorem Nodes2.base {B g : Nat} {w : World} {v : Value} {ts : List Tree} (h : Nodes2 B g w v ts) : Nodes B w v ts := by
 obtain ⟨R, ho, _, hl, ht⟩ := h
 exact ⟨R, ho, hl, fun i a c => (ht i a c).mono (fun b q => ⟨q.1.1, q.2⟩)⟩
theorem Nodes2.list {B g : Nat} {w : World} {v : Value} {ts : List Tree} (h : Nodes2 B g w v ts) : IsTs (fun b => B ≤ b ∧ b ≠ g) w v ts := by
 obtain ⟨p, cap, hv, hp, hb⟩ := h.base.slice
 obtain ⟨R, ho, hne, hl, ht⟩ := h
 have hs := ho.sl
 subst hv
 exact ⟨p, ts.length, cap, R, rfl, hs, hp, fun b o e _ => ⟨(hb b o e).1, fun e2 => hne (by rw [(hb b o e).2, e2])⟩, hl, fun i a c => (ht i a c).mono (fun b q => q.1)⟩
theorem Nodes2.mv {B g : Nat} {r : Rdr} {w w' : World} {v : Value} {ts : List Tree} (h : Nodes2 B g w v ts) (hm : Mv r w w') (hr : r.b < B) : Nodes2 B g w' v ts := by
 obtain ⟨R, ⟨h1, h2⟩, hne, hl, ht⟩ := h
 refine ⟨R, ⟨h1, ?_⟩, hne, hl, fun i a c => (ht i a c).but (M := fun a => a.block = r.b) hm (fun a e q => by rw [e] at q; have := q.1.1; omega)⟩
 rcases h2 with h2 | ⟨g, cap, cur, hv, hg, hh, rest⟩
 ·exact .inl h2
 ·exact .inr ⟨g, cap, cur, hv, hg, by rw [hm.block (lt_heap hh) (by omega)]; exact hh, rest⟩
theorem Nodes2.but0 {B g : Nat} {w w' : World} {v : Value} {ts : List Tree} (h : Nodes2 B g w v ts) (hm : But (fun _ => False) w w') : Nodes2 B g w' v ts := by
 obtain ⟨R, ⟨h1, h2⟩, hne, hl, ht⟩ := h
 refine ⟨R, ⟨h1, ?_⟩, hne, hl, fun i a c => (ht i a c).but hm (fun _ q => q.elim)⟩
 rcases h2 with h2 | ⟨g, cap, cur, hv, hg, hh, rest⟩
 ·exact .inl h2
 ·exact .inr ⟨g, cap, cur, hv, hg, by rw [hm.block g (lt_heap hh) (fun _ _ q => q)]; exact hh, rest⟩
theorem Nodes2.own {B g : Nat} {w : World} {v : Value} {ts : List Tree} (h : Nodes2 B g w v ts) : ∀ b, v.ownBlock = some b → B ≤ b ∧ b < w.heap.size ∧ b ≠ g := fun b e => by
 have h1 := h.base.own b e
 obtain ⟨R, ho, hne, _⟩ := h
 exact ⟨h1.1, h1.2, fun e2 => hne (by rw [e, e2])⟩
/-- what the rule and the list lean on -/
def F02 (r : Rdr) (σ : Except Nat Nat) (s : Bool) (B g : Nat) (v : Value) (ts : List Tree) (ic ia : Nat) : Facts := fun k W => (k = ic → RrAt r σ s W) ∧ (k = ia → Nodes2 B g W v ts)
theorem F02.keeps {r : Rdr} {σ : Except Nat Nat} {s : Bool} {B g : Nat} {v : Value} {ts : List Tree} {ic ia : Nat} (hB : r.b < B) (hv : ∀ g, v.ownBlock = some g → B ≤ g) : KeepsS (Sx r v.ownBlock ic ia) (F02 r σ s B g v ts ic ia) := by
 intro i k x y hk hs hf
 unfold Sx at hs
 refine ⟨fun e => ?_, fun e => ?_⟩
 ·split at hs
  ·omega
  ·split at hs
   ·exact (hf.1 e).grown hs (fun g eg => by have := hv g eg; omega)
   ·exact (hf.1 e).mv hs
 ·split at hs
  ·exact (hf.2 e).mv hs hB
  ·split at hs
   ·omega
   ·exact (hf.2 e).but0 hs
theorem F02.start {r : Rdr} {σ : Except Nat Nat} {s : Bool} {B g : Nat} {v : Value} {ts : List Tree} {ic ia : Nat} {w : World} (h : RrAt r σ s w) (hn : Nodes2 B g w v ts) : ∀ k, F02 r σ s B g v ts ic ia k w.drew :=
 fun k => ⟨fun _ => h.mv (But.drew w), fun _ => hn.but0 (But.drew w)⟩
section
variable {r : Rdr} {ob : Option Nat} {ic ia k : Nat} {wr : World} {P : Program} {Pn : Ending → World → Prop} {σ : Except Nat Nat} {s : Bool} {p : PM Tree}
end
/-- a variable that holds a node whose list is one's own and grows -/
structure KB2 (r : Rdr) (w0 : World) (g : Nat) (q : Raw) (t : Tree) (W : World) : Prop where
 box : BoxAt r w0 g q W
 nodes : Nodes2 (w0.heap.size + 1) g W (.slice q.p q.n q.cap) t.kids
 kd : q.kind = t.kind
 tx : q.text = t.text
 pl : q.at_ = t.at_
theorem KB2.on {r : Rdr} {w0 : World} {g : Nat} {q : Raw} {t : Tree} {W W' : World} (h : KB2 r w0 g q t W) (hm : Mv r W W') : KB2 r w0 g q t W' :=
 ⟨h.box.mvB hm h.box.old, h.nodes.mv hm (by have := h.box.new; have := h.box.old; omega), h.kd, h.tx, h.pl⟩
theorem KB2.tree {r : Rdr} {w0 : World} {g : Nat} {q : Raw} {t : Tree} {W : World} (h : KB2 r w0 g q t W) : IsT (fun b => w0.heap.size < b) W q t := by
 obtain ⟨k, s, a, l⟩ := t
 obtain ⟨k', s', a', p, n, cap⟩ := q
 have h1 : k' = k := h.kd
 have h2 : s' = s := h.tx
 have h3 : a' = a := h.pl
 subst h1
 subst h2
 subst h3
 exact (IsT.node _ _ _ h.nodes.list).mono (fun b hb => by have hb' : w0.heap.size + 1 ≤ b := hb.1; omega)
theorem KB2.own {r : Rdr} {w0 : World} {g : Nat} {q : Raw} {t : Tree} {W : World} (h : KB2 r w0 g q t W) : ∀ b, (Value.slice q.p q.n q.cap).ownBlock = some b → r.b < b ∧ b < W.heap.size ∧ b ≠ g ∧ w0.heap.size < b := fun b e => by
 obtain ⟨h1, h2, h3⟩ := h.nodes.own b e
 have := h.box.new
 have := h.box.old
 exact ⟨by omega, h2, h3, by omega⟩
/-- the list behind the region -/
theorem KB2.store {r : Rdr} {w0 : World} {g : Nat} {q : Raw} {t : Tree} {W W' : World} {p : Option Addr} {n cap : Nat} {ts : List Tree} (h : KB2 r w0 g q t W) (hb : BoxAt r w0 g q W') (hn : Nodes2 (w0.heap.size + 1) g W' (.slice p n cap) ts) :
  KB2 r w0 g ⟨q.kind, q.text, q.at_, p, n, cap⟩ (.mk t.kind t.text t.at_ ts) (W'.setCell ⟨g, 3, none⟩ (.slice p n cap)) := by
 have key : But (fun a => a.block = g) W' (W'.setCell ⟨g, 3, none⟩ (.slice p n cap)) := But.setCell W' _ _ rfl
 refine ⟨⟨heap_setCell_same _ _ _ _ _ _ hb.z, hb.new, hb.old⟩, ?_, h.kd, h.tx, h.pl⟩
 obtain ⟨R, ⟨h1, h2⟩, hne, hl, ht⟩ := hn
 refine ⟨R, ⟨h1, ?_⟩, hne, hl, fun i a c => (ht i a c).but key (fun a e q => by have e' : a.block = g := e; exact q.1.2 e')⟩
 rcases h2 with h2 | ⟨g', c', cur, hv, hg, hh, rest⟩
 ·exact .inl h2
 ·refine .inr ⟨g', c', cur, hv, hg, ?_, rest⟩
  rw [But.block key g' (lt_heap hh) (fun a ha e => by
   have e' : a.block = g := e
   have e2 : g' = g := ha.symm.trans e'
   exact hne (by rw [hv, e2]; rfl))]
  exact hh
/-- the node is put into a variable behind its row -/
theorem KB2.first {r : Rdr} {w0 : World} {σ : Except Nat Nat} {s : Bool} {W : World} (k : Int) (t : ByteArray) (a : Int) {p : Option Addr} {n cap : Nat} {ts : List Tree} (h : St r w0 σ s W) (hn : Nodes (w0.heap.size + 1) W (.slice p n cap) ts) :
  KB2 r w0 W.heap.size ⟨k, t, a, p, n, cap⟩ (.mk k t a ts) (W.alloc (.cells (ndC ⟨k, t, a, p, n, cap⟩) 37)) := by
 have hob := hn.own
 obtain ⟨R, ho, hl, ht⟩ := hn
 refine ⟨⟨heap_alloc_new W _, lt_heap h.res.z, h.rb⟩, ⟨R, ho.alloc _, fun e => by have := (hob _ e).2; omega, hl, fun i a c => ?_⟩, rfl, rfl, rfl⟩
 exact ((ht i a c).old.later (boxB W _)).mono (fun b hb => ⟨⟨hb.1.1, fun e => by have := hb.2; omega⟩, hb.1.2⟩)
/-- a variable whose node is of blocks of A -/
structure VarD (A : Nat → Prop) (r : Rdr) (w0 : World) (g : Nat) (q : Raw) (t : Tree) (W : World) : Prop where
 box : BoxAt r w0 g q W
 tree : IsT A W q t
theorem VarD.first {A : Nat → Prop} {r : Rdr} {w0 : World} {σ : Except Nat Nat} {s : Bool} {W : World} {q : Raw} {t : Tree} (h : St r w0 σ s W) (ht : IsT A W q t) : VarD A r w0 W.heap.size q t (W.alloc (.cells (ndC q) 37)) :=
 ⟨⟨heap_alloc_new W _, lt_heap h.res.z, h.rb⟩, ht.later (boxB W _)⟩
theorem VarD.on {A : Nat → Prop} {r : Rdr} {w0 : World} {g : Nat} {q : Raw} {t : Tree} {W W' : World} (h : VarD A r w0 g q t W) (hA : ∀ b, A b → b ≠ r.b) (hm : Mv r W W') : VarD A r w0 g q t W' := ⟨h.box.mvB hm h.box.old, h.tree.mvG hm hA⟩
end Go.Proofs.YtheigpiffdabnaaGreat
namespace Go.Proofs.YtheigpiffdabnaaGreat
open Go Go.RowKit
end Go.Proofs.YtheigpiffdabnaaGreat
namespace Go.Proofs.YtheigpiffdabnaaGreat
open Go Go.RowKit
end Go.Proofs.YtheigpiffdabnaaGreat
