/-
  LAWS: a node is put into a variable that was made among the parts of the node.
-/
import Derived.Test.YtgcaeimlmkkeoaaGreatZR14
import Derived.Deep.RegionWith
import Derived.Deep.CutRange
set_option linter.unusedSimpArgs false
set_option linter.unusedVariables false
namespace Go.Proofs.YtgcaeimlmkkeoaaGreat
open Go Go.RowKit
theorem St.drew {r : Rdr} {w0 : World} {σ : Except Nat Nat} {s : Bool} {W : World} (h : St r w0 σ s W) : St r w0 σ s W.drew := ⟨h.rr.mv (But.drew W), h.mv.trans (But.drew W), ⟨h.res.z⟩, h.rb⟩
theorem Var.drew {r : Rdr} {w0 : World} {g : Nat} {q : Raw} {t : Tree} {W : World} (h : Var r w0 g q t W) : Var r w0 g q t W.drew := h.on (But.drew W)
/-- a node is put into a variable whose block its row and its trees let be -/
theorem KB2.put {r : Rdr} {w0 : World} {σ : Except Nat Nat} {s : Bool} {g : Nat} {zq : Raw} {W : World} (k : Int) (t : ByteArray) (a : Int) {p : Option Addr} {n cap : Nat} {ts : List Tree} (h : St r w0 σ s W) (hb : BoxAt r w0 g zq W) (hn : Nodes2 (w0.heap.size + 1) g W (.slice p n cap) ts) :
  St r w0 σ s ((((W.setCell ⟨g, 0, none⟩ (.int .i64 k)).setCell ⟨g, 1, none⟩ (.string t)).setCell ⟨g, 2, none⟩ (.int .i64 a)).setCell ⟨g, 3, none⟩ (.slice p n cap)) ∧
  KB2 r w0 g ⟨k, t, a, p, n, cap⟩ (.mk k t a ts) ((((W.setCell ⟨g, 0, none⟩ (.int .i64 k)).setCell ⟨g, 1, none⟩ (.string t)).setCell ⟨g, 2, none⟩ (.int .i64 a)).setCell ⟨g, 3, none⟩ (.slice p n cap)) := by
 have key : ∀ (W : World) (k : Nat) (v : Value), But (fun a => a.block = g) W (W.setCell ⟨g, k, none⟩ v) := fun W k v => But.setCell W _ v rfl
 have bb := (((key W 0 (.int .i64 k)).trans (key _ 1 (.string t))).trans (key _ 2 (.int .i64 a))).trans (key _ 3 (.slice p n cap))
 refine ⟨(((h.poke g 0 _ hb.new).poke g 1 _ hb.new).poke g 2 _ hb.new).poke g 3 _ hb.new, ⟨heap_setCell_same _ _ _ _ _ _ (heap_setCell_same _ _ _ _ _ _ (heap_setCell_same _ _ _ _ _ _ (heap_setCell_same _ _ _ _ _ _ hb.z))), hb.new, hb.old⟩, ?_, rfl, rfl, rfl⟩
 obtain ⟨R, ⟨h1, h2⟩, hne, hl, ht⟩ := hn
 refine ⟨R, ⟨h1, ?_⟩, hne, hl, fun i a c => (ht i a c).but bb (fun a e q => by have e' : a.block = g := e; exact q.1.2 e')⟩
 rcases h2 with h2 | ⟨g', c', cur, hv, hg, hh, rest⟩
 ·exact .inl h2
 ·refine .inr ⟨g', c', cur, hv, hg, ?_, rest⟩
  rw [But.block bb g' (lt_heap hh) (fun a ha e => by
   have e' : a.block = g := e
   have e2 : g' = g := ha.symm.trans e'
   exact hne (by rw [hv, e2]; rfl))]
  exact hh
/-- nodes in a row beside a variable's block -/
theorem Nodes2.of {B g : Nat} {w : World} {v : Value} {ts : List Tree} (h : Nodes B w v ts) (hg : w.heap.size ≤ g) : Nodes2 B g w v ts := by
 have hob := h.own
 obtain ⟨R, ho, hl, ht⟩ := h
 exact ⟨R, ho, fun e => by have := (hob _ e).2; omega, hl, fun i a c => (ht i a c).old.mono (fun b hb => ⟨⟨hb.1.1, fun e => by have := hb.2; omega⟩, hb.1.2⟩)⟩
theorem own_lit {m b n c : Nat} (e : (Value.slice (some ⟨m, 0, none⟩) n c).ownBlock = some b) : m = b := by simpa [Value.ownBlock] using e
/-- two nodes are laid in a row, beside a variable's block -/
theorem Nodes2.two {B g : Nat} {W : World} {q1 q2 : Raw} {t1 t2 : Tree} (hB : B ≤ W.heap.size) (hg : g ≠ W.heap.size) (h1 : IsT (fun b => B ≤ b ∧ b ≠ g) W q1 t1) (h2 : IsT (fun b => B ≤ b ∧ b ≠ g) W q2 t2) :
  Nodes2 B g (W.alloc (.cells #[.int .i64 q1.kind, .string q1.text, .int .i64 q1.at_, .slice q1.p q1.n q1.cap, .int .i64 q2.kind, .string q2.text, .int .i64 q2.at_, .slice q2.p q2.n q2.cap] 40)) (.slice (some ⟨W.heap.size, 0, none⟩) 2 2) [t1, t2] := by
 have hb := boxB W (.cells #[.int .i64 q1.kind, .string q1.text, .int .i64 q1.at_, .slice q1.p q1.n q1.cap, .int .i64 q2.kind, .string q2.text, .int .i64 q2.at_, .slice q2.p q2.n q2.cap] 40)
 refine ⟨[q1, q2], ⟨rfl, .inr ⟨W.heap.size, 2, _, rfl, hB, heap_alloc_new W _, Nat.le_refl _, by decide, rfl, rfl⟩⟩, fun e => hg (own_lit e).symm, rfl, fun i a c => ?_⟩
 have key : ∀ {q : Raw} {t : Tree}, IsT (fun b => B ≤ b ∧ b ≠ g) W q t → IsT (fun b => (B ≤ b ∧ b ≠ g) ∧ (Value.slice (some ⟨W.heap.size, 0, none⟩) 2 2).ownBlock ≠ some b) (W.alloc (.cells #[.int .i64 q1.kind, .string q1.text, .int .i64 q1.at_, .slice q1.p q1.n q1.cap, .int .i64 q2.kind, .string q2.text, .int .i64 q2.at_, .slice q2.p q2.n q2.cap] 40)) q t := fun h =>
  (h.old.later hb).mono (fun b q => ⟨q.1, fun e => by have := own_lit e; have := q.2; omega⟩)
 match i, a, c with
 | 0, _, _ => exact key h1
 | 1, _, _ => exact key h2
 | i + 2, c, _ => exact absurd c (by simp)
theorem Nodes2.later {B g : Nat} {w w' : World} {v : Value} {ts : List Tree} (h : Nodes2 B g w v ts) (hb : Below w.heap.size w w') : Nodes2 B g w' v ts := by
 have hob := h.own
 obtain ⟨R, ho, hne, hl, ht⟩ := h
 exact ⟨R, ho.below hb, hne, hl, fun i a c => (ht i a c).later hb⟩
theorem BoxAt.below {r : Rdr} {w0 W W' : World} {g : Nat} {q : Raw} (h : BoxAt r w0 g q W) (hb : Below W.heap.size W W') : BoxAt r w0 g q W' := ⟨by rw [hb.block g (lt_heap h.z)]; exact h.z, h.new, h.old⟩
section
variable {r : Rdr} {w0 W W9 : World} {σ : Except Nat Nat} {s : Bool} {n7 : Nat} {q1 q5 : Raw} {t1 t5 : Tree}
/-- the variable was made before the rule was called -/
theorem leaf_s1 {zq : Raw} (hB : w0.heap.size + 1 ≤ n7 ∧ r.b < w0.heap.size) (hS : St r w0 σ s W) (hX : BoxAt r w0 n7 zq W) (hU : n7 + 1 ≤ W.heap.size) (hI : IsT (fun b => w0.heap.size + 1 ≤ b ∧ b < n7) W q1 t1) (hJ : IsT (fun b => n7 + 1 ≤ b) W q5 t5) (hb : Below (W.alloc (.cells #[.int .i64 q1.kind, .string q1.text, .int .i64 q1.at_, .slice q1.p q1.n q1.cap, .int .i64 q5.kind, .string q5.text, .int .i64 q5.at_, .slice q5.p q5.n q5.cap] 40)).heap.size (W.alloc (.cells #[.int .i64 q1.kind, .string q1.text, .int .i64 q1.at_, .slice q1.p q1.n q1.cap, .int .i64 q5.kind, .string q5.text, .int .i64 q5.at_, .slice q5.p q5.n q5.cap] 40)) W9) :
  St r w0 σ s W9 ∧ BoxAt r w0 n7 zq W9 ∧ Nodes2 (w0.heap.size + 1) n7 W9 (.slice (some ⟨W.heap.size, 0, none⟩) 2 2) [t1, t5] := by
 have hbb := boxB W (.cells #[.int .i64 q1.kind, .string q1.text, .int .i64 q1.at_, .slice q1.p q1.n q1.cap, .int .i64 q5.kind, .string q5.text, .int .i64 q5.at_, .slice q5.p q5.n q5.cap] 40)
 exact ⟨(hS.on (hS.rr.below hbb) (Mv.of_below hbb)).on ((hS.rr.below hbb).below hb) (Mv.of_below hb), (hX.below hbb).below hb,
  (Nodes2.two (by omega) (by omega) (hI.mono (fun b hb => ⟨hb.1, by omega⟩)) (hJ.mono (fun b hb => ⟨by omega, by omega⟩))).later hb⟩
/-- the variable was made between the rule and the row -/
theorem leaf_s2 (hB : w0.heap.size + 1 ≤ n7 ∧ r.b < w0.heap.size) (hS : St r w0 σ s W) (hU : n7 ≤ W.heap.size) (hI : IsT (fun b => w0.heap.size + 1 ≤ b ∧ b < n7) W q1 t1) (hJ : IsT (fun b => n7 ≤ b) W q5 t5) (hb : Below ((W.alloc (.cells #[.int .i64 0, .string ⟨#[]⟩, .int .i64 0, .slice none 0 0] 40)).alloc (.cells #[.int .i64 q1.kind, .string q1.text, .int .i64 q1.at_, .slice q1.p q1.n q1.cap, .int .i64 q5.kind, .string q5.text, .int .i64 q5.at_, .slice q5.p q5.n q5.cap] 40)).heap.size ((W.alloc (.cells #[.int .i64 0, .string ⟨#[]⟩, .int .i64 0, .slice none 0 0] 40)).alloc (.cells #[.int .i64 q1.kind, .string q1.text, .int .i64 q1.at_, .slice q1.p q1.n q1.cap, .int .i64 q5.kind, .string q5.text, .int .i64 q5.at_, .slice q5.p q5.n q5.cap] 40)) W9) :
  St r w0 σ s W9 ∧ BoxAt r w0 W.heap.size ⟨0, ⟨#[]⟩, 0, none, 0, 0⟩ W9 ∧ Nodes2 (w0.heap.size + 1) W.heap.size W9 (.slice (some ⟨W.heap.size + 1, 0, none⟩) 2 2) [t1, t5] := by
 have hba := boxB W (.cells #[.int .i64 0, .string ⟨#[]⟩, .int .i64 0, .slice none 0 0] 40)
 have hbb := boxB (W.alloc (.cells #[.int .i64 0, .string ⟨#[]⟩, .int .i64 0, .slice none 0 0] 40)) (.cells #[.int .i64 q1.kind, .string q1.text, .int .i64 q1.at_, .slice q1.p q1.n q1.cap, .int .i64 q5.kind, .string q5.text, .int .i64 q5.at_, .slice q5.p q5.n q5.cap] 40)
 have hX : BoxAt r w0 W.heap.size ⟨0, ⟨#[]⟩, 0, none, 0, 0⟩ (W.alloc (.cells #[.int .i64 0, .string ⟨#[]⟩, .int .i64 0, .slice none 0 0] 40)) := ⟨heap_alloc_new W _, by omega, hB.2⟩
 have hsz : (W.alloc (.cells #[.int .i64 0, .string ⟨#[]⟩, .int .i64 0, .slice none 0 0] 40)).heap.size = W.heap.size + 1 := by simp
 have hS1 := hS.on (hS.rr.below hba) (Mv.of_below hba)
 have hn := Nodes2.two (B := w0.heap.size + 1) (g := W.heap.size) (W := W.alloc (.cells #[.int .i64 0, .string ⟨#[]⟩, .int .i64 0, .slice none 0 0] 40)) (by omega) (by omega) ((hI.later hba).mono (fun b hb => ⟨hb.1, by omega⟩)) ((hJ.old.later hba).mono (fun b hb => ⟨by omega, by omega⟩))
 rw [hsz] at hn
 exact ⟨(hS1.on (hS1.rr.below hbb) (Mv.of_below hbb)).on ((hS1.rr.below hbb).below hb) (Mv.of_below hb), (hX.below hbb).below hb, hn.later hb⟩
/-- the variable was made between the row and the node -/
theorem leaf_s3 (hB : w0.heap.size + 1 ≤ n7 ∧ r.b < w0.heap.size) (hS : St r w0 σ s W) (hU : n7 ≤ W.heap.size) (hI : IsT (fun b => w0.heap.size + 1 ≤ b ∧ b < n7) W q1 t1) (hJ : IsT (fun b => n7 ≤ b) W q5 t5) (hb : Below ((W.alloc (.cells #[.int .i64 q1.kind, .string q1.text, .int .i64 q1.at_, .slice q1.p q1.n q1.cap, .int .i64 q5.kind, .string q5.text, .int .i64 q5.at_, .slice q5.p q5.n q5.cap] 40)).alloc (.cells #[.int .i64 0, .string ⟨#[]⟩, .int .i64 0, .slice none 0 0] 40)).heap.size ((W.alloc (.cells #[.int .i64 q1.kind, .string q1.text, .int .i64 q1.at_, .slice q1.p q1.n q1.cap, .int .i64 q5.kind, .string q5.text, .int .i64 q5.at_, .slice q5.p q5.n q5.cap] 40)).alloc (.cells #[.int .i64 0, .string ⟨#[]⟩, .int .i64 0, .slice none 0 0] 40)) W9) :
  St r w0 σ s W9 ∧ BoxAt r w0 (W.heap.size + 1) ⟨0, ⟨#[]⟩, 0, none, 0, 0⟩ W9 ∧ Nodes2 (w0.heap.size + 1) (W.heap.size + 1) W9 (.slice (some ⟨W.heap.size, 0, none⟩) 2 2) [t1, t5] := by
 have hba := boxB W (.cells #[.int .i64 q1.kind, .string q1.text, .int .i64 q1.at_, .slice q1.p q1.n q1.cap, .int .i64 q5.kind, .string q5.text, .int .i64 q5.at_, .slice q5.p q5.n q5.cap] 40)
 have hbb := boxB (W.alloc (.cells #[.int .i64 q1.kind, .string q1.text, .int .i64 q1.at_, .slice q1.p q1.n q1.cap, .int .i64 q5.kind, .string q5.text, .int .i64 q5.at_, .slice q5.p q5.n q5.cap] 40)) (.cells #[.int .i64 0, .string ⟨#[]⟩, .int .i64 0, .slice none 0 0] 40)
 have hsz : (W.alloc (.cells #[.int .i64 q1.kind, .string q1.text, .int .i64 q1.at_, .slice q1.p q1.n q1.cap, .int .i64 q5.kind, .string q5.text, .int .i64 q5.at_, .slice q5.p q5.n q5.cap] 40)).heap.size = W.heap.size + 1 := by simp
 have hX : BoxAt r w0 (W.heap.size + 1) ⟨0, ⟨#[]⟩, 0, none, 0, 0⟩ ((W.alloc (.cells #[.int .i64 q1.kind, .string q1.text, .int .i64 q1.at_, .slice q1.p q1.n q1.cap, .int .i64 q5.kind, .string q5.text, .int .i64 q5.at_, .slice q5.p q5.n q5.cap] 40)).alloc (.cells #[.int .i64 0, .string ⟨#[]⟩, .int .i64 0, .slice none 0 0] 40)) := ⟨by rw [← hsz]; exact heap_alloc_new (W.alloc (.cells #[.int .i64 q1.kind, .string q1.text, .int .i64 q1.at_, .slice q1.p q1.n q1.cap, .int .i64 q5.kind, .string q5.text, .int .i64 q5.at_, .slice q5.p q5.n q5.cap] 40)) _, by omega, hB.2⟩
 have hS1 := hS.on (hS.rr.below hba) (Mv.of_below hba)
 have hn := Nodes2.two (B := w0.heap.size + 1) (g := W.heap.size + 1) (W := W) (by omega) (by omega) (hI.mono (fun b hb => ⟨hb.1, by omega⟩)) (hJ.old.mono (fun b hb => ⟨by omega, by omega⟩))
 exact ⟨(hS1.on (hS1.rr.below hbb) (Mv.of_below hbb)).on ((hS1.rr.below hbb).below hb) (Mv.of_below hb), hX.below hb, (hn.later hbb).later hb⟩
/-- the variable is made behind the node -/
theorem leaf_s4 (k : Int) (tx : ByteArray) (a : Int) (hB : w0.heap.size + 1 ≤ n7 ∧ r.b < w0.heap.size) (hS : St r w0 σ s W) (hU : n7 ≤ W.heap.size) (hI : IsT (fun b => w0.heap.size + 1 ≤ b ∧ b < n7) W q1 t1) (hJ : IsT (fun b => n7 ≤ b) W q5 t5) (hb : Below (W.alloc (.cells #[.int .i64 q1.kind, .string q1.text, .int .i64 q1.at_, .slice q1.p q1.n q1.cap, .int .i64 q5.kind, .string q5.text, .int .i64 q5.at_, .slice q5.p q5.n q5.cap] 40)).heap.size (W.alloc (.cells #[.int .i64 q1.kind, .string q1.text, .int .i64 q1.at_, .slice q1.p q1.n q1.cap, .int .i64 q5.kind, .string q5.text, .int .i64 q5.at_, .slice q5.p q5.n q5.cap] 40)) W9) :
  St r w0 σ s (W9.alloc (.cells #[.int .i64 k, .string tx, .int .i64 a, .slice (some ⟨W.heap.size, 0, none⟩) 2 2] 40)) ∧ KB2 r w0 W9.heap.size ⟨k, tx, a, some ⟨W.heap.size, 0, none⟩, 2, 2⟩ (.mk k tx a [t1, t5]) (W9.alloc (.cells #[.int .i64 k, .string tx, .int .i64 a, .slice (some ⟨W.heap.size, 0, none⟩) 2 2] 40)) := by
 have hba := boxB W (.cells #[.int .i64 q1.kind, .string q1.text, .int .i64 q1.at_, .slice q1.p q1.n q1.cap, .int .i64 q5.kind, .string q5.text, .int .i64 q5.at_, .slice q5.p q5.n q5.cap] 40)
 have hbb := boxB W9 (.cells #[.int .i64 k, .string tx, .int .i64 a, .slice (some ⟨W.heap.size, 0, none⟩) 2 2] 40)
 have hS1 := hS.on (hS.rr.below hba) (Mv.of_below hba)
 have hS2 := hS1.on (hS1.rr.below hb) (Mv.of_below hb)
 have hn := Nodes2.two (B := w0.heap.size + 1) (g := W.heap.size + 1) (W := W) (by omega) (by omega) (hI.mono (fun b hb => ⟨hb.1, by omega⟩)) (hJ.old.mono (fun b hb => ⟨by omega, by omega⟩))
 exact ⟨hS2.on (hS2.rr.below hbb) (Mv.of_below hbb), KB2.first k tx a hS2 (hn.later hb).base⟩
end
section
variable {r : Rdr} {w0 W W8 : World} {σ σ' : Except Nat Nat} {s : Bool} {g1 : Nat} {q1 q5 : Raw} {t1 t5 : Tree}
/-- the rule is called before the variable is made -/
theorem rule_d (hP : Var r w0 g1 q1 t1 W) (hS : St r w0 σ s W) (ht : IsT (fun b => W.drew.heap.size ≤ b) W8 q5 t5) (hr : RrAt r σ' s W8) (hm : Mv r W.drew W8) :
  St r w0 σ' s W8 ∧ Var r w0 g1 q1 t1 W8 ∧ IsT (fun b => w0.heap.size + 1 ≤ b ∧ b < W.heap.size) W8 q1 t1 ∧ IsT (fun b => W.heap.size ≤ b) W8 q5 t5 ∧ W.heap.size ≤ W8.heap.size := by
 have hrb := hS.rb
 exact ⟨hS.drew.on hr hm, hP.drew.on hm, ((hP.val.old.mvG (r := r) (But.drew W) (fun b hb => by have := hb.1; omega)).mvG hm (fun b hb => by have := hb.1; omega)).mono (fun b hb => ⟨hb.1, hb.2⟩), ht, hm.size⟩
/-- the rule is called behind the making of the variable -/
theorem rule_a (hP : Var r w0 g1 q1 t1 W) (hS : St r w0 σ s W) (ht : IsT (fun b => (W.alloc (.cells #[.int .i64 0, .string ⟨#[]⟩, .int .i64 0, .slice none 0 0] 40)).drew.heap.size ≤ b) W8 q5 t5) (hr : RrAt r σ' s W8) (hm : Mv r (W.alloc (.cells #[.int .i64 0, .string ⟨#[]⟩, .int .i64 0, .slice none 0 0] 40)).drew W8) :
  St r w0 σ' s W8 ∧ Var r w0 g1 q1 t1 W8 ∧ IsT (fun b => w0.heap.size + 1 ≤ b ∧ b < W.heap.size) W8 q1 t1 ∧ IsT (fun b => W.heap.size + 1 ≤ b) W8 q5 t5 ∧ W.heap.size + 1 ≤ W8.heap.size ∧ BoxAt r w0 W.heap.size ⟨0, ⟨#[]⟩, 0, none, 0, 0⟩ W8 := by
 have hrb := hS.rb
 have hb := boxB W (.cells #[.int .i64 0, .string ⟨#[]⟩, .int .i64 0, .slice none 0 0] 40)
 have hsz : (W.alloc (.cells #[.int .i64 0, .string ⟨#[]⟩, .int .i64 0, .slice none 0 0] 40)).drew.heap.size = W.heap.size + 1 := by
  show (W.alloc (.cells #[.int .i64 0, .string ⟨#[]⟩, .int .i64 0, .slice none 0 0] 40)).heap.size = _
  simp
 have hX : BoxAt r w0 W.heap.size ⟨0, ⟨#[]⟩, 0, none, 0, 0⟩ (W.alloc (.cells #[.int .i64 0, .string ⟨#[]⟩, .int .i64 0, .slice none 0 0] 40)).drew := ⟨heap_alloc_new W _, hS.up, hS.rb⟩
 refine ⟨(hS.on (hS.rr.below hb) (Mv.of_below hb)).drew.on hr hm, (hP.on (Mv.of_below hb)).drew.on hm, (((hP.val.old.later hb).mvG (r := r) (But.drew _) (fun b hb => by have := hb.1; omega)).mvG hm (fun b hb => by have := hb.1; omega)).mono (fun b hb => ⟨hb.1, hb.2⟩), ht.mono (fun b hb => ?_), ?_, hX.mvB hm hrb⟩
 ·rw [hsz] at hb; exact hb
 ·have := hm.size; rw [hsz] at this; exact this
end
end Go.Proofs.YtgcaeimlmkkeoaaGreat
namespace Go.Proofs.YtgcaeimlmkkeoaaGreat
open Go Go.RowKit
set_option maxRecDepth 100000 in
set_option maxHeartbeats 4000000 in
theorem rItem_impl (r : Rdr) (i : Nat) (s : Bool) (T Bk : PM Tree) (hup : Up T) (hub : Up Bk)  (w : World) (h : RrAt r (.ok i) s w) (hE : EndAt r) (hK : Known r.L) (hT : ∀ σ1 w1, RrAt r σ1 s w1 → Calls Tryz.prog 41 #[.pointer (some ⟨r.b, 0, none⟩), .int .i64 1] w1 (RrPost r T σ1 s w1)) (hB : ∀ σ1 w1, RrAt r σ1 s w1 → Calls Tryz.prog 88 #[.pointer (some ⟨r.b, 0, none⟩), .int .i64 1] w1 (RrPost r Bk σ1 s w1)) (n0 : isMark r i ⟨#[117, 115, 101]⟩ = false) (n1 : isMark r i ⟨#[112, 117, 98]⟩ = false) (n2 : isMark r i ⟨#[99, 111, 110, 115, 116]⟩ = false) (n3 : isMark r i ⟨#[102, 110]⟩ = false) (n4 : isMark r i ⟨#[116, 121, 112, 101]⟩ = false) (n5 : isMark r i ⟨#[116, 114, 97, 105, 116]⟩ = false) (hk : isMark r i ⟨#[105, 109, 112, 108]⟩ = true) :
  Calls Tryz.prog 33 #[.pointer (some ⟨r.b, 0, none⟩)] w (RrPost r (impR r T Bk) (.ok i) s w) := by
 have HT := Lib.hid (St.start h)
 have HE := Lib.hid hE
 have HK := Lib.hid hK
 have HTY := Lib.hid hT
 have HUP := Lib.hid hup
 have HUB := Lib.hid hub
 have HBK := Lib.hid hB
 obtain ⟨P, hP⟩ : ∃ P, (impR r T Bk) = P := ⟨_, rfl⟩
 have hd : Due P (.ok i) (impR r T Bk) (.ok i) := by rw [hP]; exact Due.refl _ _
 rw [hP]
 clear hP
 unfold impR at hd
 have HD := Lib.hid hd
 clear h hE hK hd hT hB
 go_enter Tryz.func33, Tryz.ntmps33
 go_wp2_with fail
 generalize w.alloc (.cells #[.int .i64 0, .string ⟨#[]⟩, .int .i64 0, .slice none 0 0] 40) = w1 at *
 refine (here_r r _ s _ HT.out.rr).mono ?_
 rintro e w2 ⟨a, rfl, hr, hm, hg⟩
 replace HD := Lib.hid (HD.out.step hg)
 replace HT := Lib.hid (HT.out.on hr hm)
 clear hr hm hg
 rw [after_here] at HT HD
 go_wp2_with fail
 refine (take_no r i s ⟨#[117, 115, 101]⟩ _ HT.out.rr HE.out HK.out (by decide) (known_of (by decide)) n0).mono ?_
 rintro e u0 ⟨rfl, hr, hm⟩
 replace HT := Lib.hid (HT.out.on hr hm)
 clear hr hm n0
 go_wp2_with fail
 refine (take_no r i s ⟨#[112, 117, 98]⟩ _ HT.out.rr HE.out HK.out (by decide) (known_of (by decide)) n1).mono ?_
 rintro e u1 ⟨rfl, hr, hm⟩
 replace HT := Lib.hid (HT.out.on hr hm)
 clear hr hm n1
 go_wp2_with fail
 refine (take_no r i s ⟨#[99, 111, 110, 115, 116]⟩ _ HT.out.rr HE.out HK.out (by decide) (known_of (by decide)) n2).mono ?_
 rintro e u2 ⟨rfl, hr, hm⟩
 replace HT := Lib.hid (HT.out.on hr hm)
 clear hr hm n2
 go_wp2_with fail
 refine (take_no r i s ⟨#[102, 110]⟩ _ HT.out.rr HE.out HK.out (by decide) (known_of (by decide)) n3).mono ?_
 rintro e u3 ⟨rfl, hr, hm⟩
 replace HT := Lib.hid (HT.out.on hr hm)
 clear hr hm n3
 go_wp2_with fail
 refine (take_no r i s ⟨#[116, 121, 112, 101]⟩ _ HT.out.rr HE.out HK.out (by decide) (known_of (by decide)) n4).mono ?_
 rintro e u4 ⟨rfl, hr, hm⟩
 replace HT := Lib.hid (HT.out.on hr hm)
 clear hr hm n4
 go_wp2_with fail
 refine (take_no r i s ⟨#[116, 114, 97, 105, 116]⟩ _ HT.out.rr HE.out HK.out (by decide) (known_of (by decide)) n5).mono ?_
 rintro e u5 ⟨rfl, hr, hm⟩
 replace HT := Lib.hid (HT.out.on hr hm)
 clear hr hm n5
 go_wp2_with fail
 refine (take_yes r i s ⟨#[105, 109, 112, 108]⟩ _ HT.out.rr HE.out HK.out (by decide) (known_of (by decide)) hk).mono ?_
 rintro e w3 ⟨rfl, hr, hm⟩
 replace HT := Lib.hid (HT.out.on hr hm)
 replace HD := Lib.hid ((HD.out.step (Got.unit _ _)).at_ (after_ok (nd_yes hk)))
 clear hr hm hk
 go_wp2_with fail
 refine (rParams_any r _ s _ HT.out.rr HE.out HK.out).mono ?_
 rintro e w4 ⟨q1, t1, rfl, ht, hr, hm, hg⟩
 have HI := Lib.hid (ht.mono (fun b hb => Nat.lt_of_lt_of_le HT.out.up hb))
 replace HD := Lib.hid (HD.out.step hg)
 replace HT := Lib.hid (HT.out.on hr hm)
 clear hr hm hg ht
 unfold ndC
 go_wp2_with fail
 have HP := Lib.hid (Var.first HT.out HI.out)
 have hbx := boxB w4 (.cells (ndC q1) 40)
 replace HT := Lib.hid (HT.out.on (HT.out.rr.below hbx) (Mv.of_below hbx))
 clear hbx HI
 unfold ndC at HP HT 
 obtain ⟨g1, hg⟩ : ∃ g1, w4.heap.size = g1 := ⟨_, rfl⟩
 rw [hg] at HP ⊢
 generalize w4.alloc (.cells #[.int .i64 q1.kind, .string q1.text, .int .i64 q1.at_, .slice q1.p q1.n q1.cap] 40) = w5 at *
 clear hg
 refine (name_r r _ s _ HT.out.rr HE.out).mono ?_
 rintro e w6 ⟨nm, rfl, hr, hm, hg⟩
 replace HD := Lib.hid (HD.out.step hg)
 replace HT := Lib.hid (HT.out.on hr hm)
 replace HP := Lib.hid (HP.out.on hm)
 clear hr hm hg
 go_wp2_with fail
 refine (need_r r _ s ⟨#[102, 111, 114]⟩ _ HT.out.rr HE.out HK.out (by decide) (known_of (by decide))).mono ?_
 rintro e w7 ⟨rfl, hr, hm⟩
 replace HD := Lib.hid (HD.out.step (Got.unit _ _))
 replace HT := Lib.hid (HT.out.on hr hm)
 replace HP := Lib.hid (HP.out.on hm)
 clear hr hm
 generalize after (needM r _) _ = σ7 at HT HD
 go_wp2_with fail
 have HB0 : Hid (w.heap.size + 1 ≤ w7.heap.size ∧ r.b < w.heap.size) := ⟨HT.out.up, HT.out.rb⟩
 have HTd := Lib.hid HT.out.drew
 have HTa := Lib.hid (HT.out.on (HT.out.rr.below (boxB w7 (.cells #[.int .i64 0, .string ⟨#[]⟩, .int .i64 0, .slice none 0 0] 40))) (Mv.of_below (boxB w7 (.cells #[.int .i64 0, .string ⟨#[]⟩, .int .i64 0, .slice none 0 0] 40)))).drew
 have HPd := Lib.hid HP.out.drew
 go_cut [20] from 175 to 181 (fun p wx => ∃ (g : Nat) (q : Raw) (t : Tree), p = .pointer (some ⟨g, 0, none⟩) ∧ Hid (St r w (after T σ7) s wx) ∧ Hid (KB2 r w g q t wx) ∧ Hid (Due P (.ok i) (bindM (needM r ⟨#[123]⟩) fun _ => allK r ⟨#[125]⟩ (fnK r T Bk) (fun l => ndM 7 nm a l) (r.L.length + 1) t.kids) (after T σ7)) ∧ Hid (t = .mk 7 nm a t.kids) ∧ t.kids.length = 2)
 case first =>
  obtain ⟨p0, p1, p2, p3⟩ := HP.out.drew.box.cells
  obtain ⟨z0, z1, z2, z3⟩ := (HP.out.on (Mv.of_below (boxB w7 (.cells #[.int .i64 0, .string ⟨#[]⟩, .int .i64 0, .slice none 0 0] 40)))).drew.box.cells
  go_region_with (first
   | (go_at_call 41; refine (HTY.out _ _ HTd.out.rr).mono ?_; rintro e w8 ⟨q5, t5, rfl, ht, hr, hm, hg⟩; obtain ⟨h1, h2, h3, h4, h5⟩ := rule_d HP.out HT.out ht hr hm; have HS8 := Lib.hid h1; obtain ⟨x0, x1, x2, x3⟩ := h2.box.cells; obtain ⟨y0, y1, y2, y3⟩ := (h2.on (Mv.of_below (boxB w8 (.cells #[.int .i64 0, .string ⟨#[]⟩, .int .i64 0, .slice none 0 0] 40)))).box.cells; have HI8 := Lib.hid h3; have HJ8 := Lib.hid h4; have HU8 := Lib.hid h5; have HD8 := Lib.hid (HD.out.step hg); clear ht hr hm hg h1 h2 h3 h4 h5; unfold ndC)
   | (go_at_call 41; refine (HTY.out _ _ HTa.out.rr).mono ?_; rintro e w8 ⟨q5, t5, rfl, ht, hr, hm, hg⟩; obtain ⟨h1, h2, h3, h4, h5, h6⟩ := rule_a HP.out HT.out ht hr hm; have HS8 := Lib.hid h1; obtain ⟨x0, x1, x2, x3⟩ := h2.box.cells; have HI8 := Lib.hid h3; have HJ8 := Lib.hid h4; have HU8 := Lib.hid h5; have HX8 := Lib.hid h6; have HD8 := Lib.hid (HD.out.step hg); clear ht hr hm hg h1 h2 h3 h4 h5 h6; unfold ndC)
   | (go_at_call 58; refine (rLeaf_any _ _ _ _ _ _ _).mono ?_; rintro e w9 ⟨rfl, hb⟩; unfold ndC; first
     | (have hk := leaf_s1 HB0.out HS8.out HX8.out HU8.out HI8.out HJ8.out hb; have HK9 := Lib.hid hk; obtain ⟨y0, y1, y2, y3⟩ := hk.2.1.cells; have fz := hk.2.1.warm'; clear hk hb)
     | (have hk := leaf_s4 7 nm a HB0.out HS8.out HU8.out HI8.out HJ8.out hb; have HK9 := Lib.hid hk; clear hk hb)
     | (have hk := leaf_s2 HB0.out HS8.out HU8.out HI8.out HJ8.out hb; have HK9 := Lib.hid hk; obtain ⟨y0, y1, y2, y3⟩ := hk.2.1.cells; have fz := hk.2.1.warm'; clear hk hb)
     | (have hk := leaf_s3 HB0.out HS8.out HU8.out HI8.out HJ8.out hb; have HK9 := Lib.hid hk; obtain ⟨y0, y1, y2, y3⟩ := hk.2.1.cells; have fz := hk.2.1.warm'; clear hk hb)))
  all_goals (go_wp2_with fail; go_meet; first
   | exact ⟨_, ⟨7, nm, a, some ⟨_, 0, none⟩, 2, 2⟩, .mk 7 nm a [t1, t5], rfl, Lib.hid HK9.out.1, Lib.hid HK9.out.2, HD8, rfl, rfl⟩
   | (have hput := KB2.put 7 nm a HK9.out.1 HK9.out.2.1 HK9.out.2.2; exact ⟨_, ⟨7, nm, a, some ⟨_, 0, none⟩, 2, 2⟩, .mk 7 nm a [t1, t5], rfl, Lib.hid hput.1, Lib.hid hput.2, HD8, rfl, rfl⟩))
 case rest =>
  clear HT HD HP HTd HTa HPd HB0
  obtain ⟨g, q0, t0, rfl, HT, HB, HD, HT0, ht0⟩ := hcut
  go_wp2_with fail
  refine (need_r r _ s ⟨#[123]⟩ _ HT.out.rr HE.out HK.out (by decide) (known_of (by decide))).mono ?_
  rintro e w24 ⟨rfl, hr, hm⟩
  replace HD := Lib.hid (HD.out.step (Got.unit _ _))
  replace HT := Lib.hid (HT.out.on hr hm)
  replace HB := Lib.hid (HB.out.on hm)
  clear hr hm
  generalize after (needM r _) _ = σ24 at HT HD
  go_wp2_with fail
  go_loopw [21] (fun _x21 wr => ∃ (f : Nat) (q : Raw) (t : Tree) (σ9 : Except Nat Nat), Hid (St r w σ9 s wr) ∧ Hid (KB2 r w g q t wr) ∧ Hid (Due P (.ok i) (allK r ⟨#[125]⟩ (fnK r T Bk) (fun l => ndM 7 nm a l) f t.kids) σ9) ∧ Hid (t = .mk 7 nm a t.kids) ∧ t.kids.length + f = r.L.length + 3 ∧ ∀ i, σ9 = .ok i → r.L.length ≤ f + i) (fun _x21 wr => roomOf r wr)
  case atStart => exact ⟨r.L.length + 1, _, t0, _, HT.out, HB.out, HD.out, HT0.out, by omega, fun i e => by omega⟩
  case round =>
   clear HT HB HD
   obtain ⟨f, q, t, σ9, HT, HB, HD, HKT, hf, HI0⟩ := hrel
   have HRM := Lib.hid (roomOf_eq HT.out.rr)
   have hfew := HT.out.rr.few
   go_wp2_with fail
   refine (ok_r r _ s _ HT.out.rr).mono ?_
   rintro e w7 ⟨b, rfl, rfl, hb⟩
   rcases hb with ⟨rfl, i9, rfl⟩ | ⟨rfl, k, rfl⟩
   rotate_left
   ·clear HI0 HRM
    obtain ⟨b0, b1, b2, b3⟩ := HB.out.box.cells
    have HW := Lib.hid (HT.out.ret (q := q) (HB.out.tree))
    obtain ⟨d0, d1, d2, d3, f0⟩ := HT.out.res.cells
    try unfold ndC
    go_wp2_with fail
    obtain ⟨hcell, hist, hrr, hmv⟩ := HW.out
    exact bodyPost_ret (results_cellT rfl _ _ _ ⟨w.heap.size, 0, none⟩ _ rfl (load_node _ _ q hcell)) rfl (HD.out.postE hist hrr hmv)
   have hfi := HI0 i9 rfl
   have hlt := HT.out.rr.lt
   obtain ⟨f', rfl⟩ : ∃ f', f = f' + 1 := ⟨f - 1, by omega⟩
   clear HI0
   replace HD : Hid (Due P (.ok i) (allT r ⟨#[125]⟩ (fnK r T Bk) (fun l => ndM 7 nm a l) f' t.kids) (.ok i9)) := HD
   go_wp2_with fail
   refine (take_r r _ s ⟨#[125]⟩ _ HT.out.rr HE.out HK.out (by decide) (known_of (by decide))).mono ?_
   rintro e w8 ⟨b, rfl, hr, hm, hg, hz⟩
   have HTK := Lib.hid hg
   replace HD := Lib.hid (HD.out.step hg)
   replace HT := Lib.hid (HT.out.on hr hm)
   replace HB := Lib.hid (HB.out.on hm)
   clear hr hm hg
   cases b
   rotate_left
   ·obtain ⟨i0, hi0, ha0⟩ := took_true HTK.out hz
    cases hi0
    rw [ha0] at HT HD
    clear HTK hz ha0 HRM
    replace HD := Lib.hid (HD.out.to (Q' := pureM t) (by have h := HKT.out; exact congrArg pureM h.symm))
    obtain ⟨b0, b1, b2, b3⟩ := HB.out.box.cells
    have HW := Lib.hid (HT.out.ret (q := q) (HB.out.tree))
    obtain ⟨d0, d1, d2, d3, f0⟩ := HT.out.res.cells
    try unfold ndC
    go_wp2_with fail
    obtain ⟨hcell, hist, hrr, hmv⟩ := HW.out
    exact bodyPost_ret (results_cellT rfl _ _ _ ⟨w.heap.size, 0, none⟩ _ rfl (load_node _ _ q hcell)) rfl (HD.out.postP hist hrr hmv)
   have hnt : ¬ isMark r i9 ⟨#[125]⟩ = true := fun hm => by have := HTK.out i9 true (i9 + 1) rfl (tk_yes hm); cases this
   rw [after_ok (tk_no hnt)] at HT HD
   clear HTK hz hnt
   replace HD : Hid (Due P (.ok i) (bindM (hereM r) fun af => bindM (needM r ⟨#[102, 110]⟩) fun _ => bindM (funR r false T Bk af) fun u => allK r ⟨#[125]⟩ (fnK r T Bk) (fun l => ndM 7 nm a l) f' (t.kids ++ [u])) (.ok i9)) := HD
   go_wp2_with fail
   refine (here_r r _ s _ HT.out.rr).mono ?_
   rintro e w9 ⟨af, rfl, hr, hm, hg⟩
   replace HD := Lib.hid (HD.out.step hg)
   replace HT := Lib.hid (HT.out.on hr hm)
   replace HB := Lib.hid (HB.out.on hm)
   clear hr hm hg
   go_wp2_with fail
   refine (need_r r _ s ⟨#[102, 110]⟩ _ HT.out.rr HE.out HK.out (by decide) (known_of (by decide))).mono ?_
   rintro e w10 ⟨rfl, hr, hm⟩
   replace HD := Lib.hid (HD.out.step (Got.unit _ _))
   replace HT := Lib.hid (HT.out.on hr hm)
   replace HB := Lib.hid (HB.out.on hm)
   clear hr hm
   have HG0 : Hid (Geq (i9 + 1) (after (needM r ⟨#[102, 110]⟩) (after (hereM r) (.ok i9)))) := fun j e => by rw [after_here] at e; exact (ups_need r _).after e
   generalize (after (needM r ⟨#[102, 110]⟩) (after (hereM r) (.ok i9))) = σ10 at HT HD HG0
   go_wp2_with fail
   have HOG : Hid ((Value.slice q.p q.n q.cap).ownBlock ≠ some g) := fun e => (HB.out.own g e).2.2.1 rfl
   have HO : Hid (∀ b, (Value.slice q.p q.n q.cap).ownBlock = some b → r.b < b ∧ b < w10.heap.size ∧ b ≠ g ∧ w.heap.size < b) := HB.out.own
   have HRW : Hid (r.b < w10.heap.size) := HT.out.rr.rb
   have HGL : Hid (g < w10.heap.size ∧ w.heap.size < g ∧ r.b < w.heap.size) := ⟨lt_heap HB.out.box.z, HB.out.box.new, HB.out.box.old⟩
   apply wp_region_many 8 (Sx r (Value.slice q.p q.n q.cap).ownBlock 4 6) (InvX r w (Value.slice q.p q.n q.cap).ownBlock w10) (F02 r σ10 s (w.heap.size + 1) g (.slice q.p q.n q.cap) t.kids 4 6)
   case hIS => exact fun i x y hs hi => hi.step i hs (fun b e => Nat.le_of_lt (HO.out b e).2.2.2)
   case hk0 => exact F02.keeps (by have := HGL.out; omega) (fun b e => by have := HO.out b e; omega)
   case hm => kernel_rfl
   case hB => kernel_rfl
   case h0 => exact InvX.start HT.out.mv
   case h1 => exact F02.start HT.out.rr HB.out.nodes
   simp only [List.take_succ_cons, List.take_zero, List.drop_succ_cons, List.drop_zero]
   apply wpMany_cons (t := tvIs (.pointer (some ⟨g, 3, none⟩))) (tvIs_goodS _ _)
   case h1 =>
    intro W hI hl
    unfold oneAt
    go_simp
    exact sx_is (by decide) (by decide)
   intro _
   rw [tvIs_f]
   go_simp
   apply wpMany_cons (t := tvIs (.slice q.p q.n q.cap)) (tvIs_goodS _ _)
   case h1 =>
    intro W hI hl
    obtain ⟨b0, b1, b2, b3⟩ := (hI.box HB.out.box HOG.out).cells
    unfold oneAt
    go_simp
    exact sx_is (by decide) (by decide)
   intro _
   rw [tvIs_f]
   go_simp
   apply wpMany_cons (t := tvIs (.pointer (some ⟨r.b, 0, none⟩))) (tvIs_goodS _ _)
   case h1 =>
    intro W hI hl
    unfold oneAt
    go_simp
    exact sx_is (by decide) (by decide)
   intro _
   rw [tvIs_f]
   go_simp
   apply wpMany_cons (t := tvIs (.int .i64 af)) (tvIs_goodS _ _)
   case h1 =>
    intro W hI hl
    unfold oneAt
    go_simp
    exact sx_is (by decide) (by decide)
   intro _
   rw [tvIs_f]
   go_simp
   apply wpMany_cons (t := tyCall r w10 (funR r false T Bk af) σ10 s) (tyCall_good HRW.out (fun b e => by have := HO.out b e; omega))
   case h1 =>
    intro W hI hl
    have hr : RrAt r σ10 s W := hl.1.1 rfl
    unfold oneAt
    go_simp
    exact sx_call hI (rFun_any r _ s false T Bk af HUP.out W hr HE.out HK.out HTY.out HBK.out)
   rintro ⟨q5, t5⟩
   rw [tyCall_f]
   unfold ndC
   go_simp
   apply wpMany_cons (t := tyRow w10 1 (fun l => ∃ t5, l = [t5] ∧ Got (funR r false T Bk af) σ10 t5)) (tyRow_good HRW.out (fun b e => by have := HO.out b e; omega))
   case h1 =>
    intro W hI hl
    have h5 : IsT (fun b => w10.heap.size ≤ b) W q5 t5 ∧ RrAt r (after (funR r false T Bk af) σ10) s W ∧ Got (funR r false T Bk af) σ10 t5 := hl.2 ⟨4, .data⟩ (by simp) rfl
    unfold oneAt
    go_simp
    exact sx_row [q5] [t5] hI (by decide) (by decide) rfl rfl rfl (by decide) (by decide) (fun i a b => match i, a, b with | 0, _, _ => h5.1 | i + 1, c, _ => absurd c (by simp)) (⟨t5, rfl, h5.2.2⟩)
   rintro ⟨g6, l6⟩
   rw [tyRow_f]
   go_simp
   apply wpMany_cons (t := tyList2 (w.heap.size + 1) g (Value.slice q.p q.n q.cap).ownBlock w10 (fun l => ∃ t5, l = t.kids ++ [t5] ∧ Got (funR r false T Bk af) σ10 t5)) (tyList2_good (by have := HGL.out; omega))
   case h1 =>
    intro W hI hl
    have hN : Nodes2 (w.heap.size + 1) g W (.slice q.p q.n q.cap) t.kids := hl.1.2 rfl
    have h6 : IsTs (fun b => w10.heap.size ≤ b) W (.slice (some ⟨g6, 0, none⟩) 1 1) l6 ∧ ∃ t5, l6 = [t5] ∧ Got (funR r false T Bk af) σ10 t5 := hl.2 ⟨5, .data⟩ (by simp) rfl
    exact sx_push2 rfl (.tmp 196) (.tmp 200) rfl rfl rfl hI (by decide) hN (by have := HGL.out; omega) HGL.out.1 (fun b e => (HO.out b e).2.1) (A := (fun b => w10.heap.size ≤ b)) (fun b hb => ⟨⟨by have := HGL.out; omega, by have := HGL.out; omega⟩, fun e => by have := (HO.out b e).2.1; omega⟩) (h6.1) (by omega) (by obtain ⟨t5, e, hg⟩ := h6.2; exact ⟨t5, by rw [e], hg⟩)
   rintro ⟨v7, l7⟩
   rw [tyList2_f]
   go_simp
   apply wpMany_cons (t := tvIs (.pointer (some ⟨g, 3, none⟩))) (tvIs_goodS _ _)
   case h1 =>
    intro W hI hl
    unfold oneAt
    go_simp
    exact sx_is (by decide) (by decide)
   intro _
   rw [tvIs_f]
   go_simp
   apply wpMany_nil (Ts := [])
   intro w40 hI hFa
   have h5 : IsT (fun b => w10.heap.size ≤ b) w40 q5 t5 ∧ RrAt r (after (funR r false T Bk af) σ10) s w40 ∧ Got (funR r false T Bk af) σ10 t5 := hFa 4
   have hrr := h5.2.1
   have h7 : Nodes2 (w.heap.size + 1) g w40 v7 l7 ∧ (∃ t5, l7 = t.kids ++ [t5] ∧ Got (funR r false T Bk af) σ10 t5) ∧ _ := hFa 6
   obtain ⟨h7, ⟨t6, rfl, hg6⟩, -⟩ := h7
   obtain ⟨p7, c7, rfl, -, -⟩ := h7.base.slice
   obtain ⟨n7, e7⟩ : ∃ n7, (t.kids ++ [t6]).length = n7 := ⟨_, rfl⟩
   rw [e7] at h7 ⊢
   clear e7
   replace HD := Lib.hid (HD.out.step hg6)
   have HBX := Lib.hid (hI.box HB.out.box HOG.out)
   replace HB := Lib.hid (HB.out.store HBX.out h7)
   replace HT := Lib.hid ((hI.st HT.out hrr (fun b e => (HO.out b e).2.2.2)).poke g 3 (.slice p7 n7 c7) HBX.out.new)
   have HK7 : Hid (Tree.mk t.kind t.text t.at_ (t.kids ++ [t6]) = .mk 7 nm a (t.kids ++ [t6])) := by show _ = _; rw [HKT.out]; rfl
   obtain ⟨b0, b1, b2, b3⟩ := HBX.out.cells
   have fz := HBX.out.warm'
   have hf8 : (t.kids ++ [t6]).length + f' = r.L.length + 3 := by rw [List.length_append]; simp only [List.length_cons, List.length_nil]; omega
   clear hI hFa h5 h7 hrr HO HRW HGL HOG HKT
   go_wp2_with fail
   clear b0 b1 b2 b3 fz HBX
   generalize w40.setCell ⟨g, 3, none⟩ (.slice p7 n7 c7) = w41 at *
   obtain ⟨q8, hq8⟩ : ∃ q8 : Raw, q8 = ⟨q.kind, q.text, q.at_, p7, n7, c7⟩ := ⟨_, rfl⟩
   obtain ⟨t8, ht8⟩ : ∃ t8, t8 = Tree.mk t.kind t.text t.at_ (t.kids ++ [t6]) := ⟨_, rfl⟩
   have hk8 : t8.kids = t.kids ++ [t6] := by rw [ht8]; rfl
   rw [← hq8, ← ht8] at HB
   rw [← ht8, ← hk8] at HK7
   rw [← hk8] at hf8
   clear hq8 ht8
   replace HD : Hid (Due P (.ok i) (allK r ⟨#[125]⟩ (fnK r T Bk) (fun l => ndM 7 nm a l) f' t8.kids) (after (funR r false T Bk af) σ10)) := by rw [hk8]; exact HD
   have HGE : Hid (Geq (i9 + 1) (after (funR r false T Bk af) σ10)) := HG0.out.after (up_funR0 r T Bk HUP.out HUB.out af)
   generalize (after (funR r false T Bk af) σ10) = σ42 at HT HD HGE
   have hrm := roomOf_eq HT.out.rr
   go_roundw
   case rel => exact ⟨f', q8, t8, σ42, HT.out, HB.out, HD.out, HK7.out, hf8, fun i e => by have := HGE.out i e; omega⟩
   case measure =>
    rw [hrm, HRM.out]
    cases σ42 with
    | ok j => have := HGE.out j rfl; have := HT.out.rr.lt; simp only [room]; omega
    | error k => simp only [room]; omega
end Go.Proofs.YtgcaeimlmkkeoaaGreat
