/-
  LAWS: a node is put into a variable that was made among the parts of the node.
-/
import Derived.Test.YtheigpiffdabnaaGreatZR6
import Derived.Deep.RegionWith
import Derived.Deep.CutRange
import Derived.Test.YtheigpiffdabnaaGreatZR4
import Derived.Test.YtheigpiffdabnaaGreatZR5
set_option linter.unusedSimpArgs false
set_option linter.unusedVariables false
namespace Go.Proofs.YtheigpiffdabnaaGreat
open Go Go.RowKit
theorem St.drew {r : Rdr} {w0 : World} {σ : Except Nat Nat} {s : Bool} {W : World} (h : St r w0 σ s W) : St r w0 σ s W.drew := ⟨h.rr.mv (But.drew W), h.mv.trans (But.drew W), ⟨h.res.z⟩, h.rb⟩
theorem Var.drew {r : Rdr} {w0 : World} {g : Nat} {q : Raw} {t : Tree} {W : World} (h : Var r w0 g q t W) : Var r w0 g q t W.drew := h.on (But.drew W)
/-- a node is put into a variable whose block its row and its trees let be -/
theorem KB2.put {r : Rdr} {w0 : World} {σ : Except Nat Nat} {s : Bool} {g : Nat} {zq : Raw} {W : World} (k : Int) (t : ByteArray) (a : Int) {p : Option Addr} {n cap : Nat} {ts : List Tree} (h : St r w0 σ s W) (hb : BoxAt r w0 g zq W) (hn : Nodes2 (w0.heap.size + 1) g W (.slice p n cap) ts) :
  St r w0 σ s ((((W.setCell ⟨g, 0, none⟩ (.int .i64 k)).setCell ⟨g, 1, none⟩ (.string t)).setCell ⟨g, 2, none⟩ (.int .i64 a)).setCell ⟨g, 3, none⟩ (.slice p n cap)) ∧
  KB2 r w0 g ⟨k, t, a, p, n, cap⟩ (.mk k t a ts) ((((W.setCell ⟨g, 0, none⟩ (.int .i64 k)).setCell ⟨g, 1, none⟩ (.string t)).setCell ⟨g, 2, none⟩ (.int .i64 a)).setCell ⟨g, 3, none⟩ (.slice p n cap)) := by
 have key : ∀ (W : World) (k : Nat) (v : Value), But (fun a => a.block = g) W (W.setCell ⟨g, k, none⟩ v) := fun W k v => But.setCell W _ v rfl
 have bb := (((key W 0 (.int .i64 k)).trans (key _ 1 (.string t))).trans (key _ 2 (.int .i64 a))).trans (key _ 3 (.slice p n cap))
 refine ⟨(((h.poke g 0 _ hb.new).poke g 1 _ hb.new).poke g 2 _ hb.new).poke g 3 _ hb.new, ⟨heap_setCell_same _ _ _ _ _ _ (heap_setCell_same _ _ _ _ _ _ (heap_setCell_same _ _ _ _ _ _ (heap_setCell_same _ _ _ _ _ _ hb.z))), hb.new, hb.old⟩, ?_, rfl, rfl, rfl⟩
 obtain ⟨R, ⟨h1, h2⟩, hne, hl, ht⟩ := hn
 refine ⟨R, ⟨h1, ?_⟩, hne, hl, fun i a c => (ht i a c).but bb (fun a e q => by have e' : a.block = g := e; exact q.1.2 e')⟩
 rcases h2 with h2 | ⟨g', c', cur, hv, hg, hh, rest⟩
 ·exact .inl h2
 ·refine .inr ⟨g', c', cur, hv, hg, ?_, rest⟩
  rw [But.block bb g' (lt_heap hh) (fun a ha e => by
   have e' : a.block = g := e
   have e2 : g' = g := ha.symm.trans e'
   exact hne (by rw [hv, e2]; rfl))]
  exact hh
/-- nodes in a row beside a variable's block -/
theorem Nodes2.of {B g : Nat} {w : World} {v : Value} {ts : List Tree} (h : Nodes B w v ts) (hg : w.heap.size ≤ g) : Nodes2 B g w v ts := by
 have hob := h.own
 obtain ⟨R, ho, hl, ht⟩ := h
 exact ⟨R, ho, fun e => by have := (hob _ e).2; omega, hl, fun i a c => (ht i a c).old.mono (fun b hb => ⟨⟨hb.1.1, fun e => by have := hb.2; omega⟩, hb.1.2⟩)⟩
theorem own_lit {m b n c : Nat} (e : (Value.slice (some ⟨m, 0, none⟩) n c).ownBlock = some b) : m = b := by simpa [Value.ownBlock] using e
/-- two nodes are laid in a row, beside a variable's block -/
theorem Nodes2.two {B g : Nat} {W : World} {q1 q2 : Raw} {t1 t2 : Tree} (hB : B ≤ W.heap.size) (hg : g ≠ W.heap.size) (h1 : IsT (fun b => B ≤ b ∧ b ≠ g) W q1 t1) (h2 : IsT (fun b => B ≤ b ∧ b ≠ g) W q2 t2) :
  Nodes2 B g (W.alloc (.cells #[.int .i64 q1.kind, .string q1.text, .int .i64 q1.at_, .slice q1.p q1.n q1.cap, .int .i64 q2.kind, .string q2.text, .int .i64 q2.at_, .slice q2.p q2.n q2.cap] 37)) (.slice (some ⟨W.heap.size, 0, none⟩) 2 2) [t1, t2] := by
 have hb := boxB W (.cells #[.int .i64 q1.kind, .string q1.text, .int .i64 q1.at_, .slice q1.p q1.n q1.cap, .int .i64 q2.kind, .string q2.text, .int .i64 q2.at_, .slice q2.p q2.n q2.cap] 37)
 refine ⟨[q1, q2], ⟨rfl, .inr ⟨W.heap.size, 2, _, rfl, hB, heap_alloc_new W _, Nat.le_refl _, by decide, rfl, rfl⟩⟩, fun e => hg (own_lit e).symm, rfl, fun i a c => ?_⟩
 have key : ∀ {q : Raw} {t : Tree}, IsT (fun b => B ≤ b ∧ b ≠ g) W q t → IsT (fun b => (B ≤ b ∧ b ≠ g) ∧ (Value.slice (some ⟨W.heap.size, 0, none⟩) 2 2).ownBlock ≠ some b) (W.alloc (.cells #[.int .i64 q1.kind, .string q1.text, .int .i64 q1.at_, .slice q1.p q1.n q1.cap, .int .i64 q2.kind, .string q2.text, .int .i64 q2.at_, .slice q2.p q2.n q2.cap] 37)) q t := fun h =>
  (h.old.later hb).mono (fun b q => ⟨q.1, fun e => by have := own_lit e; have := q.2; omega⟩)
 match i, a, c with
 | 0, _, _ => exact key h1
 | 1, _, _ => exact key h2
 | i + 2, c, _ => exact absurd c (by simp)
theorem Nodes2.later {B g : Nat} {w w' : World} {v : Value} {ts : List Tree} (h : Nodes2 B g w v ts) (hb : Below w.heap.size w w') : Nodes2 B g w' v ts := by
 have hob := h.own
 obtain ⟨R, ho, hne, hl, ht⟩ := h
 exact ⟨R, ho.below hb, hne, hl, fun i a c => (ht i a c).later hb⟩
theorem BoxAt.below {r : Rdr} {w0 W W' : World} {g : Nat} {q : Raw} (h : BoxAt r w0 g q W) (hb : Below W.heap.size W W') : BoxAt r w0 g q W' := ⟨by rw [hb.block g (lt_heap h.z)]; exact h.z, h.new, h.old⟩
section
variable {r : Rdr} {w0 W W9 : World} {σ : Except Nat Nat} {s : Bool} {n7 : Nat} {q1 q5 : Raw} {t1 t5 : Tree}
end
section
variable {r : Rdr} {w0 W W8 : World} {σ σ' : Except Nat Nat} {s : Bool} {g1 : Nat} {q1 q5 : Raw} {t1 t5 : Tree}
end
end Go.Proofs.YtheigpiffdabnaaGreat
namespace Go.Proofs.YtheigpiffdabnaaGreat
open Go Go.RowKit
end Go.Proofs.YtheigpiffdabnaaGreat
namespace Go.Proofs.YtheigpiffdabnaaGreat
open Go Go.RowKit
end Go.Proofs.YtheigpiffdabnaaGreat
namespace Go.Proofs.YtheigpiffdabnaaGreat
open Go Go.RowKit
end Go.Proofs.YtheigpiffdabnaaGreat
namespace Go.Proofs.YtheigpiffdabnaaGreat
open Go Go.RowKit
-- words that begin an item
def begL : List Lx.Bs := [[117, 115, 101], [112, 117, 98], [99, 111, 110, 115, 116], [102, 110], [116, 121, 112, 101], [116, 114, 97, 105, 116], [105, 109, 112, 108], [109, 97, 99, 114, 111]]
theorem beg_run : ∀ x ∈ begL, Lx.kindRun x = 2 := by decide
theorem beg_head : ∀ x ∈ begL, (x.head?.map Lx.runB) = some true := by decide
theorem beg_kind (c : UInt8) (l : Lx.Bs) (h : ((c :: l).take (Lx.tokLen (c :: l))) ∈ begL) : Lx.tokKind (c :: l) = 2 := by
 have hh := beg_head _ h
 have hc : Lx.runB c = true := by
  cases hn : Lx.tokLen (c :: l) with
  | zero => rw [hn] at hh; simp at hh
  | succ n => rw [hn] at hh; simpa using hh
 have hr : 0 < Lx.runLen (c :: l) := by
  unfold Lx.runLen
  rw [List.takeWhile_cons, if_pos hc]
  simp
 unfold Lx.tokKind Lx.tokLen at *
 rw [if_pos hr] at h ⊢
 exact beg_run _ h
def BegW (L : List Lx.Tok) : Prop := ∀ t ∈ L, begins t.text = true → t.kind = 2
theorem beg_mem {t : ByteArray} (h : begins t = true) : t.toList ∈ begL := by
 unfold begins at h
 simp only [Bool.or_eq_true, isB, beq_iff_eq] at h
 unfold begL
 simp only [ByteArray.toList_eq] at h ⊢
 rcases h with ((((((h | h) | h) | h) | h) | h) | h) | h <;> (rw [h]; decide)
theorem scan_begW {l : Lx.Bs} {a : Nat} {T : List Lx.Tok} (h : Lx.Scan l a T) : BegW T := by
 induction h with
 | fin a =>
  intro t ht hk
  have : t = ⟨0, ByteArray.empty, a⟩ := by simpa using ht
  subst this
  have hk2 := beg_mem hk
  have e : (ByteArray.empty : ByteArray).toList = [] := by rw [ByteArray.toList_eq]; rfl
  simp only [e] at hk2
  exact absurd hk2 (by decide)
 | blank c l a T hb h ih => exact ih
 | comm c l a T hb hc h ih => exact ih
 | tok c l a T hb hc h ih =>
  intro t ht hk
  rcases List.mem_cons.1 ht with rfl | ht
  ·refine beg_kind c l ?_
   have hk2 := beg_mem hk
   have : (Lx.tokOf (c :: l) a).text.toList = (c :: l).take (Lx.tokLen (c :: l)) := by
    unfold Lx.tokOf
    rw [ByteArray.toList_eq, Lx.mk_data]
   rwa [this] at hk2
  ·exact ih t ht hk
end Go.Proofs.YtheigpiffdabnaaGreat
