/-
  LAWS: a variable that holds a node whose list is one's own and began before the variable.
-/
import Derived.Test.YtgcaeimlmkkeoaaGreatZR8
import Derived.Test.YtgcaeimlmkkeoaaGreatZR13
set_option linter.unusedSimpArgs false
set_option linter.unusedVariables false
namespace Go.Proofs.YtgcaeimlmkkeoaaGreat
open Go Go.RowKit
/-- trees in a list of one's own, beside a variable's block -/
def Nodes2 (B g : Nat) (w : World) (v : Value) (ts : List Tree) : Prop := ∃ R : List Raw, OwnL rawEnc 40 w B v R ∧ v.ownBlock ≠ some g ∧ R.length = ts.length ∧ ∀ i (h1 : i < R.length) (h2 : i < ts.length), IsT (fun b => (B ≤ b ∧ b ≠ g) ∧ v.ownBlock ≠ some b) w R[i] ts[i]
theorem Nodes2.base {B g : Nat} {w : World} {v : Value} {ts : List Tree} (h : Nodes2 B g w v ts) : Nodes B w v ts := by
 obtain ⟨R, ho, _, hl, ht⟩ := h
 exact ⟨R, ho, hl, fun i a c => (ht i a c).mono (fun b q => ⟨q.1.1, q.2⟩)⟩
theorem Nodes2.list {B g : Nat} {w : World} {v : Value} {ts : List Tree} (h : Nodes2 B g w v ts) : IsTs (fun b => B ≤ b ∧ b ≠ g) w v ts := by
 obtain ⟨p, cap, hv, hp, hb⟩ := h.base.slice
 obtain ⟨R, ho, hne, hl, ht⟩ := h
 have hs := ho.sl
 subst hv
 exact ⟨p, ts.length, cap, R, rfl, hs, hp, fun b o e _ => ⟨(hb b o e).1, fun e2 => hne (by rw [(hb b o e).2, e2])⟩, hl, fun i a c => (ht i a c).mono (fun b q => q.1)⟩
theorem Nodes2.mv {B g : Nat} {r : Rdr} {w w' : World} {v : Value} {ts : List Tree} (h : Nodes2 B g w v ts) (hm : Mv r w w') (hr : r.b < B) : Nodes2 B g w' v ts := by
 obtain ⟨R, ⟨h1, h2⟩, hne, hl, ht⟩ := h
 refine ⟨R, ⟨h1, ?_⟩, hne, hl, fun i a c => (ht i a c).but (M := fun a => a.block = r.b) hm (fun a e q => by rw [e] at q; have := q.1.1; omega)⟩
 rcases h2 with h2 | ⟨g, cap, cur, hv, hg, hh, rest⟩
 ·exact .inl h2
 ·exact .inr ⟨g, cap, cur, hv, hg, by rw [hm.block (lt_heap hh) (by omega)]; exact hh, rest⟩
theorem Nodes2.but0 {B g : Nat} {w w' : World} {v : Value} {ts : List Tree} (h : Nodes2 B g w v ts) (hm : But (fun _ => False) w w') : Nodes2 B g w' v ts := by
 obtain ⟨R, ⟨h1, h2⟩, hne, hl, ht⟩ := h
 refine ⟨R, ⟨h1, ?_⟩, hne, hl, fun i a c => (ht i a c).but hm (fun _ q => q.elim)⟩
 rcases h2 with h2 | ⟨g, cap, cur, hv, hg, hh, rest⟩
 ·exact .inl h2
 ·exact .inr ⟨g, cap, cur, hv, hg, by rw [hm.block g (lt_heap hh) (fun _ _ q => q)]; exact hh, rest⟩
theorem Nodes2.own {B g : Nat} {w : World} {v : Value} {ts : List Tree} (h : Nodes2 B g w v ts) : ∀ b, v.ownBlock = some b → B ≤ b ∧ b < w.heap.size ∧ b ≠ g := fun b e => by
 have h1 := h.base.own b e
 obtain ⟨R, ho, hne, _⟩ := h
 exact ⟨h1.1, h1.2, fun e2 => hne (by rw [e, e2])⟩
/-- what the rule and the list lean on -/
def F02 (r : Rdr) (σ : Except Nat Nat) (s : Bool) (B g : Nat) (v : Value) (ts : List Tree) (ic ia : Nat) : Facts := fun k W => (k = ic → RrAt r σ s W) ∧ (k = ia → Nodes2 B g W v ts)
theorem F02.keeps {r : Rdr} {σ : Except Nat Nat} {s : Bool} {B g : Nat} {v : Value} {ts : List Tree} {ic ia : Nat} (hB : r.b < B) (hv : ∀ g, v.ownBlock = some g → B ≤ g) : KeepsS (Sx r v.ownBlock ic ia) (F02 r σ s B g v ts ic ia) := by
 intro i k x y hk hs hf
 unfold Sx at hs
 refine ⟨fun e => ?_, fun e => ?_⟩
 ·split at hs
  ·omega
  ·split at hs
   ·exact (hf.1 e).grown hs (fun g eg => by have := hv g eg; omega)
   ·exact (hf.1 e).mv hs
 ·split at hs
  ·exact (hf.2 e).mv hs hB
  ·split at hs
   ·omega
   ·exact (hf.2 e).but0 hs
theorem F02.start {r : Rdr} {σ : Except Nat Nat} {s : Bool} {B g : Nat} {v : Value} {ts : List Tree} {ic ia : Nat} {w : World} (h : RrAt r σ s w) (hn : Nodes2 B g w v ts) : ∀ k, F02 r σ s B g v ts ic ia k w.drew :=
 fun k => ⟨fun _ => h.mv (But.drew w), fun _ => hn.but0 (But.drew w)⟩
section
variable {r : Rdr} {ob : Option Nat} {ic ia k : Nat} {wr : World} {P : Program} {Pn : Ending → World → Prop} {σ : Except Nat Nat} {s : Bool} {p : PM Tree}
/-- a list of one's own -/
def tyList2 (B g : Nat) (ob : Option Nat) (wr : World) (G : List Tree → Prop) : TyV := ⟨Value × List Tree, ⟨(undef, [])⟩, fun x => x.1, fun x W => Nodes2 B g W x.1 x.2 ∧ G x.2 ∧ (x.1.ownBlock = ob ∨ ∃ g, x.1.ownBlock = some g ∧ wr.heap.size ≤ g)⟩
theorem tyList2_f (B g : Nat) (G : List Tree → Prop) (v : Value) (l : List Tree) : (tyList2 B g ob wr G).f (v, l) = v := rfl
theorem tyList2_good {B g : Nat} {G : List Tree → Prop} (hB : r.b < B) : GoodS (Sx r ob ic ia) ia (tyList2 B g ob wr G) := by
 intro j x w w' hj hs ⟨h1, h2, h3⟩
 refine ⟨?_, h2, h3⟩
 unfold Sx at hs
 by_cases hjc : j = ic
 ·rw [if_pos hjc] at hs
  exact h1.mv hs hB
 ·rw [if_neg hjc, if_neg hj] at hs
  exact h1.but0 hs
end
/-- a node is put behind it -/
theorem sx_push2 {r : Rdr} {ic ia : Nat} {w0 wr W : World} {Pn : Ending → World → Prop} {B gv : Nat} {v : Value} {ts l : List Tree} {g' : Nat} {G : List Tree → Prop} {ops : Array Oper} {o : Oper} {a : Act}
  (hgd : o.guard = none) (s x : Operand) (ho : o.op = .call { callee := .builtin .append, args := #[s, x], argTypes := #[36, 36] })
  (hs : a.eval s = v) (hx : a.eval x = .slice (some ⟨g', 0, none⟩) 1 1) (hI : InvX r w0 v.ownBlock wr W) (hic : ia ≠ ic)
  (hN : Nodes2 B gv W v ts) (hB : B ≤ wr.heap.size) (hgv : gv < wr.heap.size) (hob : ∀ g, v.ownBlock = some g → g < wr.heap.size) {A : Nat → Prop} (hA : ∀ b, A b → (B ≤ b ∧ b ≠ gv) ∧ v.ownBlock ≠ some b) (hl : IsTs A W (.slice (some ⟨g', 0, none⟩) 1 1) l) (hlen : ts.length ≤ 100000) (hG : G (ts ++ l)) :
  oneAt Tryz.prog ops (Sx r v.ownBlock ic ia ia) Pn (tyList2 B gv v.ownBlock wr G) o a W := by
 obtain ⟨i0, hi, hz0, hz1, hz2⟩ := info_parts infoTree
 obtain ⟨R, hown, hne, hRl, hT⟩ := hN
 obtain ⟨p', n', cap', Rl, e, hsl, _, _, hll, hlT⟩ := hl
 cases e
 obtain ⟨hn1, _, _, hlies⟩ := hsl.lies
 obtain ⟨b, off, e, hcells⟩ := hlies (by omega)
 injection e with e
 injection e with e1 e2 _
 subst e1
 subst e2
 have hsz := hI.size
 obtain ⟨q, rfl⟩ : ∃ q, Rl = [q] := by
  cases Rl with
  | nil => simp at hn1
  | cons q R => cases R with
   | nil => exact ⟨q, rfl⟩
   | cons _ _ => simp at hn1
 have cell : ∀ j u, (rawEnc.cells q)[j]? = some u → W.cell? ((⟨g', 0, none⟩ : Addr).add j) = some u := by
  intro j u hu
  rw [add_lit]
  refine hcells j u ?_
  rw [Enc.all_cons, Enc.all_nil, List.append_nil]
  exact hu
 obtain ⟨v', w', hr, g1, g2, _, g4⟩ := run_append_own_at (P := Tryz.prog) W B 36 o.type 40 i0 _ 4 56 Tryz.underlying36 hi hz0 hz1 hz2 rfl (by decide) v R.length (rawEnc.all R) hown ⟨g', 0, none⟩ 1 1 (rawEnc.cells q) rfl cell (rawEnc.one q) (by unfold maxLen; omega) (by omega) (by omega)
 have hown' : OwnL rawEnc 40 w' B v' (R ++ [q]) := by
  unfold OwnL
  rw [List.length_append, rawEnc.all_append, rawEnc.all_cons, rawEnc.all_nil, List.append_nil]
  exact g1
 have hobt := hown.lt
 have keep : ∀ {A : Nat → Prop} {qq : Raw} {tt : Tree}, IsT A W qq tt → (∀ b, A b → (B ≤ b ∧ b ≠ gv) ∧ v.ownBlock ≠ some b) → IsT (fun b => (B ≤ b ∧ b ≠ gv) ∧ v'.ownBlock ≠ some b) w' qq tt := by
  intro A qq tt h hA
  refine (h.old.same (same_grown g2) (fun a e q => (hA _ q.1).2 e)).mono (fun b hb => ⟨(hA b hb.1).1, fun e => ?_⟩)
  rcases g4 with g4 | g4
  ·rw [g4] at e; exact (hA b hb.1).2 e
  ·rw [g4] at e
   have : W.heap.size = b := by simpa using e
   have := hb.2
   omega
 have hnodes : Nodes2 B gv w' v' (ts ++ l) := by
  have hl1 : l.length = 1 := by rw [← hll]; rfl
  refine ⟨R ++ [q], hown', fun e => ?_, by simp [hRl, hl1], fun j h1 h2 => ?_⟩
  ·rcases g4 with g4 | g4
   ·rw [g4] at e; exact hne e
   ·rw [g4] at e
    have : W.heap.size = gv := by simpa using e
    omega
  by_cases hj : j < R.length
  ·rw [List.getElem_append_left hj, List.getElem_append_left (by omega)]
   exact keep (hT j hj (by omega)) (fun b hb => hb)
  ·have hjl : j - ts.length = 0 := by simp at h1; omega
   have e1 : (R ++ [q])[j] = q := by rw [List.getElem_append_right (by omega)]; simp
   have e2 : (ts ++ l)[j] = l[0] := by rw [List.getElem_append_right (by omega)]; simp only [hjl]
   rw [e1, e2]
   have := hlT 0 (by simp) (by omega)
   exact keep this hA
 have hw : Region.wanted o (yielded ops a.tmps) = true := by unfold Region.wanted; rw [hgd]
 unfold oneAt
 rw [if_pos hw]
 have hrun : (execOp a.eval o).run Tryz.prog W = .ok (.value v') w' := by
  unfold execOp
  simp only [ho, resolve, invoke, builtin, Sem.run_bind, Sem.run_pure, Result.andThen_ok, List.map_toArray, List.map_cons, List.map_nil, hs, hx, hr]
 rw [hrun]
 refine ⟨?_, (v', ts ++ l), rfl, hnodes, hG, ?_⟩
 ·unfold Sx
  rw [if_neg hic, if_pos rfl]
  exact g2
 ·rcases g4 with g4 | g4
  ·exact .inl g4
  ·exact .inr ⟨_, g4, hsz⟩
/-- a variable that holds a node whose list is one's own and grows -/
structure KB2 (r : Rdr) (w0 : World) (g : Nat) (q : Raw) (t : Tree) (W : World) : Prop where
 box : BoxAt r w0 g q W
 nodes : Nodes2 (w0.heap.size + 1) g W (.slice q.p q.n q.cap) t.kids
 kd : q.kind = t.kind
 tx : q.text = t.text
 pl : q.at_ = t.at_
theorem KB2.on {r : Rdr} {w0 : World} {g : Nat} {q : Raw} {t : Tree} {W W' : World} (h : KB2 r w0 g q t W) (hm : Mv r W W') : KB2 r w0 g q t W' :=
 ⟨h.box.mvB hm h.box.old, h.nodes.mv hm (by have := h.box.new; have := h.box.old; omega), h.kd, h.tx, h.pl⟩
theorem KB2.tree {r : Rdr} {w0 : World} {g : Nat} {q : Raw} {t : Tree} {W : World} (h : KB2 r w0 g q t W) : IsT (fun b => w0.heap.size < b) W q t := by
 obtain ⟨k, s, a, l⟩ := t
 obtain ⟨k', s', a', p, n, cap⟩ := q
 have h1 : k' = k := h.kd
 have h2 : s' = s := h.tx
 have h3 : a' = a := h.pl
 subst h1
 subst h2
 subst h3
 exact (IsT.node _ _ _ h.nodes.list).mono (fun b hb => by have hb' : w0.heap.size + 1 ≤ b := hb.1; omega)
theorem KB2.own {r : Rdr} {w0 : World} {g : Nat} {q : Raw} {t : Tree} {W : World} (h : KB2 r w0 g q t W) : ∀ b, (Value.slice q.p q.n q.cap).ownBlock = some b → r.b < b ∧ b < W.heap.size ∧ b ≠ g ∧ w0.heap.size < b := fun b e => by
 obtain ⟨h1, h2, h3⟩ := h.nodes.own b e
 have := h.box.new
 have := h.box.old
 exact ⟨by omega, h2, h3, by omega⟩
/-- the list behind the region -/
theorem KB2.store {r : Rdr} {w0 : World} {g : Nat} {q : Raw} {t : Tree} {W W' : World} {p : Option Addr} {n cap : Nat} {ts : List Tree} (h : KB2 r w0 g q t W) (hb : BoxAt r w0 g q W') (hn : Nodes2 (w0.heap.size + 1) g W' (.slice p n cap) ts) :
  KB2 r w0 g ⟨q.kind, q.text, q.at_, p, n, cap⟩ (.mk t.kind t.text t.at_ ts) (W'.setCell ⟨g, 3, none⟩ (.slice p n cap)) := by
 have key : But (fun a => a.block = g) W' (W'.setCell ⟨g, 3, none⟩ (.slice p n cap)) := But.setCell W' _ _ rfl
 refine ⟨⟨heap_setCell_same _ _ _ _ _ _ hb.z, hb.new, hb.old⟩, ?_, h.kd, h.tx, h.pl⟩
 obtain ⟨R, ⟨h1, h2⟩, hne, hl, ht⟩ := hn
 refine ⟨R, ⟨h1, ?_⟩, hne, hl, fun i a c => (ht i a c).but key (fun a e q => by have e' : a.block = g := e; exact q.1.2 e')⟩
 rcases h2 with h2 | ⟨g', c', cur, hv, hg, hh, rest⟩
 ·exact .inl h2
 ·refine .inr ⟨g', c', cur, hv, hg, ?_, rest⟩
  rw [But.block key g' (lt_heap hh) (fun a ha e => by
   have e' : a.block = g := e
   have e2 : g' = g := ha.symm.trans e'
   exact hne (by rw [hv, e2]; rfl))]
  exact hh
/-- the node is put into a variable behind its row -/
theorem KB2.first {r : Rdr} {w0 : World} {σ : Except Nat Nat} {s : Bool} {W : World} (k : Int) (t : ByteArray) (a : Int) {p : Option Addr} {n cap : Nat} {ts : List Tree} (h : St r w0 σ s W) (hn : Nodes (w0.heap.size + 1) W (.slice p n cap) ts) :
  KB2 r w0 W.heap.size ⟨k, t, a, p, n, cap⟩ (.mk k t a ts) (W.alloc (.cells (ndC ⟨k, t, a, p, n, cap⟩) 40)) := by
 have hob := hn.own
 obtain ⟨R, ho, hl, ht⟩ := hn
 refine ⟨⟨heap_alloc_new W _, lt_heap h.res.z, h.rb⟩, ⟨R, ho.alloc _, fun e => by have := (hob _ e).2; omega, hl, fun i a c => ?_⟩, rfl, rfl, rfl⟩
 exact ((ht i a c).old.later (boxB W _)).mono (fun b hb => ⟨⟨hb.1.1, fun e => by have := hb.2; omega⟩, hb.1.2⟩)
/-- the place of the variable's node -/
theorem KBox.place {r : Rdr} {w0 : World} {g : Nat} {k : Int} {t : ByteArray} {a : Int} {W : World} (h : KBox r w0 g ⟨k, t, a, none, 0, 0⟩ (.mk k t a []) W) (a' : Int) : KBox r w0 g ⟨k, t, a', none, 0, 0⟩ (.mk k t a' []) (W.setCell ⟨g, 2, none⟩ (.int .i64 a')) :=
 ⟨⟨heap_setCell_same _ _ _ _ _ _ h.box.z, h.box.new, h.box.old⟩, Nodes.none _ _, rfl, rfl, rfl⟩
/-- a variable whose node is of blocks of A -/
structure VarD (A : Nat → Prop) (r : Rdr) (w0 : World) (g : Nat) (q : Raw) (t : Tree) (W : World) : Prop where
 box : BoxAt r w0 g q W
 tree : IsT A W q t
theorem VarD.first {A : Nat → Prop} {r : Rdr} {w0 : World} {σ : Except Nat Nat} {s : Bool} {W : World} {q : Raw} {t : Tree} (h : St r w0 σ s W) (ht : IsT A W q t) : VarD A r w0 W.heap.size q t (W.alloc (.cells (ndC q) 40)) :=
 ⟨⟨heap_alloc_new W _, lt_heap h.res.z, h.rb⟩, ht.later (boxB W _)⟩
theorem VarD.on {A : Nat → Prop} {r : Rdr} {w0 : World} {g : Nat} {q : Raw} {t : Tree} {W W' : World} (h : VarD A r w0 g q t W) (hA : ∀ b, A b → b ≠ r.b) (hm : Mv r W W') : VarD A r w0 g q t W' := ⟨h.box.mvB hm h.box.old, h.tree.mvG hm hA⟩
/-- the reader's flag is set -/
theorem RrAt.flag {r : Rdr} {σ : Except Nat Nat} {s : Bool} {w : World} (h : RrAt r σ s w) (s' : Bool) : RrAt r σ s' (w.setCell ⟨r.b, 3, none⟩ (.bool s')) := by
 cases σ with
 | ok i =>
  have h' : RrIn r i (-1) s w := h
  exact h'.set (But.setCell w _ _ rfl) (heap_setCell_same w r.b 3 _ _ _ h'.cells) h'.lt h'.low
 | error k =>
  obtain ⟨h1, a, h'⟩ := h
  exact ⟨h1, a, h'.set (But.setCell w _ _ rfl) (heap_setCell_same w r.b 3 _ _ _ h'.cells) h'.lt h'.low⟩
theorem St.flag {r : Rdr} {w0 : World} {σ : Except Nat Nat} {s : Bool} {W : World} (h : St r w0 σ s W) (s' : Bool) : St r w0 σ s' (W.setCell ⟨r.b, 3, none⟩ (.bool s')) :=
 ⟨h.rr.flag s', h.mv.trans (But.setCell W _ _ rfl), h.res.mv (But.setCell W _ _ rfl) h.rb, h.rb⟩
end Go.Proofs.YtgcaeimlmkkeoaaGreat
namespace Go.Proofs.YtgcaeimlmkkeoaaGreat
open Go Go.RowKit
set_option maxRecDepth 100000 in
set_option maxHeartbeats 4000000 in
theorem rItem_macro (r : Rdr) (i : Nat) (s : Bool) (E : PM Tree)  (w : World) (h : RrAt r (.ok i) s w) (hE : EndAt r) (hK : Known r.L) (hX : ∀ σ1 w1, RrAt r σ1 s w1 → Calls Tryz.prog 38 #[.pointer (some ⟨r.b, 0, none⟩), .int .i64 1] w1 (RrPost r E σ1 s w1)) (n0 : isMark r i ⟨#[117, 115, 101]⟩ = false) (n1 : isMark r i ⟨#[112, 117, 98]⟩ = false) (n2 : isMark r i ⟨#[99, 111, 110, 115, 116]⟩ = false) (n3 : isMark r i ⟨#[102, 110]⟩ = false) (n4 : isMark r i ⟨#[116, 121, 112, 101]⟩ = false) (n5 : isMark r i ⟨#[116, 114, 97, 105, 116]⟩ = false) (n6 : isMark r i ⟨#[105, 109, 112, 108]⟩ = false) (hk : isMark r i ⟨#[109, 97, 99, 114, 111]⟩ = true) :
  Calls Tryz.prog 33 #[.pointer (some ⟨r.b, 0, none⟩)] w (RrPost r (macR r E) (.ok i) s w) := by
 have HT := Lib.hid (St.start h)
 have HE := Lib.hid hE
 have HK := Lib.hid hK
 have HEX := Lib.hid hX
 obtain ⟨P, hP⟩ : ∃ P, (macR r E) = P := ⟨_, rfl⟩
 have hd : Due P (.ok i) (macR r E) (.ok i) := by rw [hP]; exact Due.refl _ _
 rw [hP]
 clear hP
 unfold macR at hd
 unfold macA at hd
 have HD := Lib.hid hd
 clear h hE hK hd hX
 go_enter Tryz.func33, Tryz.ntmps33
 go_wp2_with fail
 generalize w.alloc (.cells #[.int .i64 0, .string ⟨#[]⟩, .int .i64 0, .slice none 0 0] 40) = w1 at *
 refine (here_r r _ s _ HT.out.rr).mono ?_
 rintro e w2 ⟨a, rfl, hr, hm, hg⟩
 replace HD := Lib.hid (HD.out.step hg)
 replace HT := Lib.hid (HT.out.on hr hm)
 clear hr hm hg
 rw [after_here] at HT HD
 go_wp2_with fail
 refine (take_no r i s ⟨#[117, 115, 101]⟩ _ HT.out.rr HE.out HK.out (by decide) (known_of (by decide)) n0).mono ?_
 rintro e u0 ⟨rfl, hr, hm⟩
 replace HT := Lib.hid (HT.out.on hr hm)
 clear hr hm n0
 go_wp2_with fail
 refine (take_no r i s ⟨#[112, 117, 98]⟩ _ HT.out.rr HE.out HK.out (by decide) (known_of (by decide)) n1).mono ?_
 rintro e u1 ⟨rfl, hr, hm⟩
 replace HT := Lib.hid (HT.out.on hr hm)
 clear hr hm n1
 go_wp2_with fail
 refine (take_no r i s ⟨#[99, 111, 110, 115, 116]⟩ _ HT.out.rr HE.out HK.out (by decide) (known_of (by decide)) n2).mono ?_
 rintro e u2 ⟨rfl, hr, hm⟩
 replace HT := Lib.hid (HT.out.on hr hm)
 clear hr hm n2
 go_wp2_with fail
 refine (take_no r i s ⟨#[102, 110]⟩ _ HT.out.rr HE.out HK.out (by decide) (known_of (by decide)) n3).mono ?_
 rintro e u3 ⟨rfl, hr, hm⟩
 replace HT := Lib.hid (HT.out.on hr hm)
 clear hr hm n3
 go_wp2_with fail
 refine (take_no r i s ⟨#[116, 121, 112, 101]⟩ _ HT.out.rr HE.out HK.out (by decide) (known_of (by decide)) n4).mono ?_
 rintro e u4 ⟨rfl, hr, hm⟩
 replace HT := Lib.hid (HT.out.on hr hm)
 clear hr hm n4
 go_wp2_with fail
 refine (take_no r i s ⟨#[116, 114, 97, 105, 116]⟩ _ HT.out.rr HE.out HK.out (by decide) (known_of (by decide)) n5).mono ?_
 rintro e u5 ⟨rfl, hr, hm⟩
 replace HT := Lib.hid (HT.out.on hr hm)
 clear hr hm n5
 go_wp2_with fail
 refine (take_no r i s ⟨#[105, 109, 112, 108]⟩ _ HT.out.rr HE.out HK.out (by decide) (known_of (by decide)) n6).mono ?_
 rintro e u6 ⟨rfl, hr, hm⟩
 replace HT := Lib.hid (HT.out.on hr hm)
 clear hr hm n6
 go_wp2_with fail
 refine (take_yes r i s ⟨#[109, 97, 99, 114, 111]⟩ _ HT.out.rr HE.out HK.out (by decide) (known_of (by decide)) hk).mono ?_
 rintro e w3 ⟨rfl, hr, hm⟩
 replace HT := Lib.hid (HT.out.on hr hm)
 replace HD := Lib.hid ((HD.out.step (Got.unit _ _)).at_ (after_ok (nd_yes hk)))
 clear hr hm hk
 go_wp2_with fail
 refine (name_r r _ s _ HT.out.rr HE.out).mono ?_
 rintro e w4 ⟨nm, rfl, hr, hm, hg⟩
 replace HD := Lib.hid (HD.out.step hg)
 replace HT := Lib.hid (HT.out.on hr hm)
 clear hr hm hg
 go_wp2_with fail
 refine (need_r r _ s ⟨#[40]⟩ _ HT.out.rr HE.out HK.out (by decide) (known_of (by decide))).mono ?_
 rintro e w5 ⟨rfl, hr, hm⟩
 replace HD := Lib.hid (HD.out.step (Got.unit _ _))
 replace HT := Lib.hid (HT.out.on hr hm)
 clear hr hm
 go_wp2_with fail
 refine (here_r r _ s _ HT.out.rr).mono ?_
 rintro e w6 ⟨a2, rfl, hr, hm, hg⟩
 replace HD := Lib.hid (HD.out.step hg)
 replace HT := Lib.hid (HT.out.on hr hm)
 clear hr hm hg
 go_wp2_with fail
 refine (leaf_r 12 ⟨#[]⟩ a2 none 0 0 _ HT.out.rr).mono ?_
 rintro e w7 ⟨rfl, hr, hm⟩
 replace HT := Lib.hid (HT.out.on hr hm)
 clear hr hm
 unfold ndC
 go_wp2_with fail
 have HB := Lib.hid (KBox.first 12 ⟨#[]⟩ a2 HT.out)
 have hbx := boxB w7 (.cells (ndC ⟨12, ⟨#[]⟩, a2, none, 0, 0⟩) 40)
 replace HT := Lib.hid (HT.out.on (HT.out.rr.below hbx) (Mv.of_below hbx))
 clear hbx
 unfold ndC at HB HT
 obtain ⟨g, hg⟩ : ∃ g, w7.heap.size = g := ⟨_, rfl⟩
 rw [hg] at HB ⊢
 generalize w7.alloc (.cells #[.int .i64 12, .string ⟨#[]⟩, .int .i64 a2, .slice none 0 0] 40) = w8 at *
 clear hg
 replace HD : Hid (Due P (.ok i) (bindM (isM r ⟨#[41]⟩) fun b => match b with | true => (macFin r (fun q => bindM (needM r ⟨#[61]⟩) fun _ => bindM E fun v => bindM (needM r ⟨#[59]⟩) fun _ => ndM 8 nm a [q, v]) a2) [] | false => macK r (fun q => bindM (needM r ⟨#[61]⟩) fun _ => bindM E fun v => bindM (needM r ⟨#[59]⟩) fun _ => ndM 8 nm a [q, v]) a2 (r.L.length + 1) []) _) := HD
 generalize after (hereM r) _ = σ8 at HT HD
 refine (is_r r _ s ⟨#[41]⟩ _ HT.out.rr HK.out (known_of (by decide))).mono ?_
 rintro e w9 ⟨b, rfl, hr, hm, hg, hz⟩
 have HTK := Lib.hid hg
 replace HD := Lib.hid (HD.out.step hg)
 replace HT := Lib.hid (HT.out.on hr hm)
 replace HB := Lib.hid (HB.out.on hm)
 clear hr hm hg
 rw [after_is] at HT HD
 clear hz HTK
 cases b
 rotate_left
 ·obtain ⟨t9, ht9⟩ : ∃ t9, t9 = Tree.mk 12 ⟨#[]⟩ a2 [] := ⟨_, rfl⟩
  obtain ⟨q9, hq9⟩ : ∃ q9 : Raw, q9 = ⟨12, ⟨#[]⟩, a2, none, 0, 0⟩ := ⟨_, rfl⟩
  have HK9 : Hid (t9 = .mk 12 ⟨#[]⟩ a2 t9.kids) := by show _ = _; rw [ht9]; rfl
  rw [← ht9, ← hq9] at HB
  replace HD : Hid (Due P (.ok i) ((macFin r (fun q => bindM (needM r ⟨#[61]⟩) fun _ => bindM E fun v => bindM (needM r ⟨#[59]⟩) fun _ => ndM 8 nm a [q, v]) a2) t9.kids) σ8) := by rw [ht9]; exact HD
  clear ht9 hq9
  go_wp2_with fail
  replace HD := Lib.hid (HD.out.to (Q' := bindM (needM r ⟨#[41]⟩) fun _ => bindM (needM r ⟨#[61]⟩) fun _ => bindM E fun v => bindM (needM r ⟨#[59]⟩) fun _ => ndM 8 nm a [t9, v]) (by have h := HK9.out; rw [h]; rfl))
  refine (need_r r _ s ⟨#[41]⟩ _ HT.out.rr HE.out HK.out (by decide) (known_of (by decide))).mono ?_
  rintro e w31 ⟨rfl, hr, hm⟩
  replace HD := Lib.hid (HD.out.step (Got.unit _ _))
  replace HT := Lib.hid (HT.out.on hr hm)
  replace HB := Lib.hid (HB.out.on hm)
  clear hr hm
  go_wp2_with fail
  refine (need_r r _ s ⟨#[61]⟩ _ HT.out.rr HE.out HK.out (by decide) (known_of (by decide))).mono ?_
  rintro e w32 ⟨rfl, hr, hm⟩
  replace HD := Lib.hid (HD.out.step (Got.unit _ _))
  replace HT := Lib.hid (HT.out.on hr hm)
  replace HB := Lib.hid (HB.out.on hm)
  clear hr hm
  go_wp2_with fail
  refine (HEX.out _ _ HT.out.rr).mono ?_
  rintro e w33 ⟨q2, t2, rfl, ht, hr, hm, hg⟩
  have HI := Lib.hid (ht.mono (fun b hb => Nat.lt_of_lt_of_le HT.out.up hb))
  replace HD := Lib.hid (HD.out.step hg)
  replace HT := Lib.hid (HT.out.on hr hm)
  replace HB := Lib.hid (HB.out.on hm)
  clear hr hm hg ht
  unfold ndC
  go_wp2_with fail
  have HQ := Lib.hid (Var.first HT.out HI.out)
  have hbx := boxB w33 (.cells (ndC q2) 40)
  replace HT := Lib.hid (HT.out.on (HT.out.rr.below hbx) (Mv.of_below hbx))
  replace HB := Lib.hid (HB.out.on (Mv.of_below hbx))
  clear hbx HI
  unfold ndC at HQ HT HB
  obtain ⟨g9, hg⟩ : ∃ g9, w33.heap.size = g9 := ⟨_, rfl⟩
  rw [hg] at HQ ⊢
  generalize w33.alloc (.cells #[.int .i64 q2.kind, .string q2.text, .int .i64 q2.at_, .slice q2.p q2.n q2.cap] 40) = w34 at *
  clear hg
  refine (need_r r _ s ⟨#[59]⟩ _ HT.out.rr HE.out HK.out (by decide) (known_of (by decide))).mono ?_
  rintro e w35 ⟨rfl, hr, hm⟩
  replace HD := Lib.hid (HD.out.step (Got.unit _ _))
  replace HT := Lib.hid (HT.out.on hr hm)
  replace HB := Lib.hid (HB.out.on hm)
  replace HQ := Lib.hid (HQ.out.on hm)
  clear hr hm
  obtain ⟨x0, x1, x2, x3⟩ := HB.out.box.cells
  obtain ⟨y0, y1, y2, y3⟩ := HQ.out.box.cells
  have hbx := boxB w35 (.cells #[.int .i64 q9.kind, .string q9.text, .int .i64 q9.at_, .slice q9.p q9.n q9.cap, .int .i64 q2.kind, .string q2.text, .int .i64 q2.at_, .slice q2.p q2.n q2.cap] 40)
  have hrow : IsTs (fun b => w.heap.size < b) (w35.alloc (.cells #[.int .i64 q9.kind, .string q9.text, .int .i64 q9.at_, .slice q9.p q9.n q9.cap, .int .i64 q2.kind, .string q2.text, .int .i64 q2.at_, .slice q2.p q2.n q2.cap] 40)) (.slice (some ⟨w35.heap.size, 0, none⟩) 2 2) [t9, t2] := IsTs.rowAt _ [q9, q2] [t9, t2] (heap_alloc_new w35 _) rfl rfl rfl (by decide) (by decide) HT.out.up (fun i a b => match i, a, b with | 0, _, _ => HB.out.tree.later hbx | 1, _, _ => HQ.out.val.later hbx | i + 2, c, _ => absurd c (by simp))
  replace HT := Lib.hid (HT.out.on (HT.out.rr.below hbx) (Mv.of_below hbx))
  have HN := Lib.hid hrow
  clear hbx hrow
  try unfold ndC
  go_wp2_with fail
  clear x0 x1 x2 x3 y0 y1 y2 y3 HB HQ
  obtain ⟨g6, hg6⟩ : ∃ g6, w35.heap.size = g6 := ⟨_, rfl⟩
  rw [hg6] at HN ⊢
  generalize w35.alloc (.cells #[.int .i64 q9.kind, .string q9.text, .int .i64 q9.at_, .slice q9.p q9.n q9.cap, .int .i64 q2.kind, .string q2.text, .int .i64 q2.at_, .slice q2.p q2.n q2.cap] 40) = w36 at *
  clear hg6
  refine (leaf_r 8 nm a (some ⟨g6, 0, none⟩) 2 2 _ HT.out.rr).mono ?_
  rintro e w360 ⟨rfl, hr, hm⟩
  replace HT := Lib.hid (HT.out.on hr hm)
  replace HN := Lib.hid (HN.out.but hm (fun a e q => by have e2 : a.block = r.b := e; have := HT.out.rb; omega))
  clear hr hm
  have HW := Lib.hid (HT.out.ret (q := ⟨8, nm, a, some ⟨g6, 0, none⟩, 2, 2⟩) (IsT.node _ _ _ HN.out))
  obtain ⟨d0, d1, d2, d3, f0⟩ := HT.out.res.cells
  try unfold ndC
  go_wp2_with fail
  obtain ⟨hcell, hist, hrr, hmv⟩ := HW.out
  exact bodyPost_ret (results_cellT rfl _ _ _ ⟨w.heap.size, 0, none⟩ _ rfl (load_node _ _ ⟨8, nm, a, some ⟨g6, 0, none⟩, 2, 2⟩ hcell)) rfl (HD.out.postP hist hrr hmv)
 replace HD : Hid (Due P (.ok i) (namesK r ⟨#[44]⟩ (macFin r (fun q => bindM (needM r ⟨#[61]⟩) fun _ => bindM E fun v => bindM (needM r ⟨#[59]⟩) fun _ => ndM 8 nm a [q, v]) a2) (r.L.length + 1) []) σ8) := HD
 go_wp2_with fail
 go_loopw [24] (fun x wr => ∃ (f : Nat) (q : Raw) (t : Tree) (σ9 : Except Nat Nat), Hid (St r w σ9 s wr) ∧ Hid (KBox r w g q t wr) ∧ Hid (Due P (.ok i) (namesK r ⟨#[44]⟩ (macFin r (fun q => bindM (needM r ⟨#[61]⟩) fun _ => bindM E fun v => bindM (needM r ⟨#[59]⟩) fun _ => ndM 8 nm a [q, v]) a2) f t.kids) σ9) ∧ Hid (t = .mk 12 ⟨#[]⟩ a2 t.kids) ∧ t.kids.length + f = r.L.length + 1 ∧ 1 ≤ f ∧ ∀ i, σ9 = .ok i → r.L.length ≤ f + i) (fun _ wr => roomOf r wr)
 case atStart => exact ⟨r.L.length + 1, _, .mk 12 ⟨#[]⟩ a2 [], σ8, HT.out, HB.out, HD.out, rfl, by simp [Tree.kids], by omega, fun i e => by omega⟩
 case round =>
  clear HT HB HD
  obtain ⟨f, q, t, σ9, HT, HB, HD, HKT, hf, hf1, hfi⟩ := hrel
  have HRM := Lib.hid (roomOf_eq HT.out.rr)
  have hfew := HT.out.rr.few
  obtain ⟨f', rfl⟩ : ∃ f', f = f' + 1 := ⟨f - 1, by omega⟩
  have HG9 : Hid (∀ j, after (nameM r) (after (hereM r) σ9) = .ok j → r.L.length ≤ f' + j ∧ room r (.ok j) < room r σ9) := by
   intro j e
   rw [after_here] at e
   cases σ9 with
   | error k => cases e
   | ok m =>
    have h1 := (ups_name r).after e
    have h2 := hfi m rfl
    have h3 := HT.out.rr.lt
    refine ⟨by omega, ?_⟩
    simp only [room]
    omega
  clear hfi hf1
  replace HD : Hid (Due P (.ok i) (namesN r ⟨#[44]⟩ (macFin r (fun q => bindM (needM r ⟨#[61]⟩) fun _ => bindM E fun v => bindM (needM r ⟨#[59]⟩) fun _ => ndM 8 nm a [q, v]) a2) f' t.kids) σ9) := HD
  go_wp2_with fail
  refine (here_r r _ s _ HT.out.rr).mono ?_
  rintro e w17 ⟨a1, rfl, hr, hm, hg⟩
  replace HD := Lib.hid (HD.out.step hg)
  replace HT := Lib.hid (HT.out.on hr hm)
  replace HB := Lib.hid (HB.out.on hm)
  clear hr hm hg
  go_wp2_with fail
  refine (leaf_r 22 ⟨#[]⟩ a1 none 0 0 _ HT.out.rr).mono ?_
  rintro e w18 ⟨rfl, hr, hm⟩
  replace HT := Lib.hid (HT.out.on hr hm)
  replace HB := Lib.hid (HB.out.on hm)
  clear hr hm
  unfold ndC
  go_wp2_with fail
  have HV := Lib.hid (VarB.first 22 ⟨#[]⟩ a1 HT.out)
  have hbx := boxB w18 (.cells (ndC ⟨22, ⟨#[]⟩, a1, none, 0, 0⟩) 40)
  replace HT := Lib.hid (HT.out.on (HT.out.rr.below hbx) (Mv.of_below hbx))
  obtain ⟨g2, hg2⟩ : ∃ g, w18.heap.size = g := ⟨_, rfl⟩
  have HSK : Hid (Sk2 r g2 w18 (w18.alloc (.cells (ndC ⟨22, ⟨#[]⟩, a1, none, 0, 0⟩) 40))) := But.of_below hbx
  have HG2 := Lib.hid hg2
  have HOW : Hid (∀ b, (Value.slice q.p q.n q.cap).ownBlock = some b → b < g2 ∧ g < b ∧ w.heap.size ≤ b) := fun b e => by have := HB.out.own b e; omega
  have HGG : Hid (g < g2) := by show g < g2; have := lt_heap HB.out.box.z; omega
  clear hbx
  unfold ndC at HV HT HSK 
  rw [hg2] at HV ⊢
  generalize w18.alloc (.cells #[.int .i64 22, .string ⟨#[]⟩, .int .i64 a1, .slice none 0 0] 40) = w19 at *
  clear hg2
  refine (name_r r _ s _ HT.out.rr HE.out).mono ?_
  rintro e w20 ⟨n1, rfl, hr, hm, hg⟩
  replace HD := Lib.hid (HD.out.step hg)
  replace HT := Lib.hid (HT.out.on hr hm)
  replace HV := Lib.hid (HV.out.on hm)
  replace HSK := Lib.hid (HSK.out.on hm)
  clear hr hm hg
  obtain ⟨v0, v1, v2', v3⟩ := HV.out.box.cells
  have fz := HV.out.box.warm'
  replace HT := Lib.hid (HT.out.poke g2 1 (.string n1) HV.out.box.new)
  replace HV := Lib.hid (HV.out.text n1)
  replace HSK := Lib.hid (HSK.out.poke g2 1 (.string n1) (Nat.le_refl _))
  replace HB := Lib.hid (HB.out.sk2 HSK.out HG2.out)
  generalize after (nameM r) (after (hereM r) σ9) = σ8 at HT HD HG9
  have hsz : ((w20.setCell ⟨g2, 1, none⟩ (.string n1))).heap.size = w20.heap.size := by simp [World.setCell]
  obtain ⟨b0, b1, b2, b3⟩ := HB.out.box.cells
  obtain ⟨u0, u1, u2, u3⟩ := HV.out.box.cells
  have hbx := boxB ((w20.setCell ⟨g2, 1, none⟩ (.string n1))) (.cells #[.int .i64 22, .string n1, .int .i64 a1, .slice none 0 0] 40)
  have hnew := heap_alloc_new ((w20.setCell ⟨g2, 1, none⟩ (.string n1))) (.cells #[.int .i64 22, .string n1, .int .i64 a1, .slice none 0 0] 40 (0, 0))
  rw [hsz] at hnew
  have hrow : IsTs (fun b => g2 < b) (((w20.setCell ⟨g2, 1, none⟩ (.string n1))).alloc (.cells #[.int .i64 22, .string n1, .int .i64 a1, .slice none 0 0] 40)) (.slice (some ⟨w20.heap.size, 0, none⟩) 1 1) [.mk 22 n1 a1 []] := IsTs.rowAt _ [⟨22, n1, a1, none, 0, 0⟩] [.mk 22 n1 a1 []] hnew rfl rfl rfl (by decide) (by decide) (by have := lt_heap HV.out.box.z; rw [hsz] at this; omega) (fun i a b => match i, a, b with | 0, _, _ => HV.out.tree.later hbx | i + 1, c, _ => absurd c (by simp))
  have hnn := HB.out.nodes.but0 (But.of_below hbx)
  have HT2 := Lib.hid (HT.out.on (HT.out.rr.below hbx) (Mv.of_below hbx))
  have HB2 := Lib.hid (HB.out.on (Mv.of_below hbx))
  have HSZ := Lib.hid hsz
  try unfold ndC
  go_wp2_with (at_builtin; go_must (refine wpList_pushRr (A := fun b => g2 < b) (B := g + 1) (o := ⟨some 227, _, _, _, _, _⟩) rfl (.tmp 224) (.tmp 226) rfl rfl rfl hnn (by have := lt_heap HB2.out.box.z; omega) (by omega) hrow (fun b hb => ⟨by have := HGG.out; omega, fun e => by have := (HOW.out b e).1; omega⟩) ?_; intro v2 w15 hn2 hg2; have hpu := HB2.out.push HT2.out hn2 hg2; obtain ⟨p7, c7, rfl, -, -⟩ := hn2.slice; obtain ⟨n7, e7⟩ : ∃ n7, (t.kids ++ [(.mk 22 n1 a1 [] : Tree)]).length = n7 := ⟨_, rfl⟩; rw [e7] at hn2 ⊢; clear e7; obtain ⟨bb0, bb1, bb2, bb3⟩ := hpu.1.cells; have ff := hpu.1.warm'))
  replace HT := Lib.hid (hpu.2.poke g 3 (.slice p7 n7 c7) HB2.out.box.new)
  replace HB := Lib.hid (HB2.out.store hpu.1 hn2)
  have HK7 : Hid (Tree.mk t.kind t.text t.at_ (t.kids ++ [.mk 22 n1 a1 []]) = .mk 12 ⟨#[]⟩ a2 (t.kids ++ [.mk 22 n1 a1 []])) := by show _ = _; rw [HKT.out]; rfl
  clear hn2 hg2 hpu bb0 bb1 bb2 bb3 ff hbx hnew hrow hnn HT2 HB2 HSZ hsz b0 b1 b2 b3 u0 u1 u2 u3
  generalize w15.setCell ⟨g, 3, none⟩ (.slice p7 n7 c7) = w16 at *
  obtain ⟨q8, hq8⟩ : ∃ q8 : Raw, q8 = ⟨q.kind, q.text, q.at_, p7, n7, c7⟩ := ⟨_, rfl⟩
  obtain ⟨t8, ht8⟩ : ∃ t8, t8 = Tree.mk t.kind t.text t.at_ (t.kids ++ [.mk 22 n1 a1 []]) := ⟨_, rfl⟩
  have hk8 : t8.kids = t.kids ++ [.mk 22 n1 a1 []] := by rw [ht8]; rfl
  rw [← hq8, ← ht8] at HB
  rw [← ht8, ← hk8] at HK7
  rw [← hk8] at HD
  have hf8 : t8.kids.length + f' = r.L.length + 1 := by rw [hk8, List.length_append]; simp only [List.length_cons, List.length_nil]; omega
  clear hq8 ht8 hk8 HKT
  replace HD : Hid (Due P (.ok i) (namesT r ⟨#[44]⟩ (macFin r (fun q => bindM (needM r ⟨#[61]⟩) fun _ => bindM E fun v => bindM (needM r ⟨#[59]⟩) fun _ => ndM 8 nm a [q, v]) a2) f' t8.kids) σ8) := HD
  clear HV HSK HG2 HOW HGG v0 v1 v2' v3 fz
  refine (take_r r _ s ⟨#[44]⟩ _ HT.out.rr HE.out HK.out (by decide) (known_of (by decide))).mono ?_
  rintro e w21 ⟨b, rfl, hr, hm, hg, hz⟩
  have HTK := Lib.hid hg
  replace HD := Lib.hid (HD.out.step hg)
  replace HT := Lib.hid (HT.out.on hr hm)
  replace HB := Lib.hid (HB.out.on hm)
  clear hr hm hg
  cases b
  ·clear HTK hz HG9
   replace HD := Lib.hid (HD.out.to (Q' := (macFin r (fun q => bindM (needM r ⟨#[61]⟩) fun _ => bindM E fun v => bindM (needM r ⟨#[59]⟩) fun _ => ndM 8 nm a [q, v]) a2) t8.kids) rfl)
   generalize after (tookM r ⟨#[44]⟩) σ8 = σ7 at HT HD
   go_wp2_with fail
   replace HD := Lib.hid (HD.out.to (Q' := bindM (needM r ⟨#[41]⟩) fun _ => bindM (needM r ⟨#[61]⟩) fun _ => bindM E fun v => bindM (needM r ⟨#[59]⟩) fun _ => ndM 8 nm a [t8, v]) (by have h := HK7.out; rw [h]; rfl))
   refine (need_r r _ s ⟨#[41]⟩ _ HT.out.rr HE.out HK.out (by decide) (known_of (by decide))).mono ?_
   rintro e w31 ⟨rfl, hr, hm⟩
   replace HD := Lib.hid (HD.out.step (Got.unit _ _))
   replace HT := Lib.hid (HT.out.on hr hm)
   replace HB := Lib.hid (HB.out.on hm)
   clear hr hm
   go_wp2_with fail
   refine (need_r r _ s ⟨#[61]⟩ _ HT.out.rr HE.out HK.out (by decide) (known_of (by decide))).mono ?_
   rintro e w32 ⟨rfl, hr, hm⟩
   replace HD := Lib.hid (HD.out.step (Got.unit _ _))
   replace HT := Lib.hid (HT.out.on hr hm)
   replace HB := Lib.hid (HB.out.on hm)
   clear hr hm
   go_wp2_with fail
   refine (HEX.out _ _ HT.out.rr).mono ?_
   rintro e w33 ⟨q2, t2, rfl, ht, hr, hm, hg⟩
   have HI := Lib.hid (ht.mono (fun b hb => Nat.lt_of_lt_of_le HT.out.up hb))
   replace HD := Lib.hid (HD.out.step hg)
   replace HT := Lib.hid (HT.out.on hr hm)
   replace HB := Lib.hid (HB.out.on hm)
   clear hr hm hg ht
   unfold ndC
   go_wp2_with fail
   have HQ := Lib.hid (Var.first HT.out HI.out)
   have hbx := boxB w33 (.cells (ndC q2) 40)
   replace HT := Lib.hid (HT.out.on (HT.out.rr.below hbx) (Mv.of_below hbx))
   replace HB := Lib.hid (HB.out.on (Mv.of_below hbx))
   clear hbx HI
   unfold ndC at HQ HT HB
   obtain ⟨g9, hg⟩ : ∃ g9, w33.heap.size = g9 := ⟨_, rfl⟩
   rw [hg] at HQ ⊢
   generalize w33.alloc (.cells #[.int .i64 q2.kind, .string q2.text, .int .i64 q2.at_, .slice q2.p q2.n q2.cap] 40) = w34 at *
   clear hg
   refine (need_r r _ s ⟨#[59]⟩ _ HT.out.rr HE.out HK.out (by decide) (known_of (by decide))).mono ?_
   rintro e w35 ⟨rfl, hr, hm⟩
   replace HD := Lib.hid (HD.out.step (Got.unit _ _))
   replace HT := Lib.hid (HT.out.on hr hm)
   replace HB := Lib.hid (HB.out.on hm)
   replace HQ := Lib.hid (HQ.out.on hm)
   clear hr hm
   obtain ⟨x0, x1, x2, x3⟩ := HB.out.box.cells
   obtain ⟨y0, y1, y2, y3⟩ := HQ.out.box.cells
   have hbx := boxB w35 (.cells #[.int .i64 q8.kind, .string q8.text, .int .i64 q8.at_, .slice q8.p q8.n q8.cap, .int .i64 q2.kind, .string q2.text, .int .i64 q2.at_, .slice q2.p q2.n q2.cap] 40)
   have hrow : IsTs (fun b => w.heap.size < b) (w35.alloc (.cells #[.int .i64 q8.kind, .string q8.text, .int .i64 q8.at_, .slice q8.p q8.n q8.cap, .int .i64 q2.kind, .string q2.text, .int .i64 q2.at_, .slice q2.p q2.n q2.cap] 40)) (.slice (some ⟨w35.heap.size, 0, none⟩) 2 2) [t8, t2] := IsTs.rowAt _ [q8, q2] [t8, t2] (heap_alloc_new w35 _) rfl rfl rfl (by decide) (by decide) HT.out.up (fun i a b => match i, a, b with | 0, _, _ => HB.out.tree.later hbx | 1, _, _ => HQ.out.val.later hbx | i + 2, c, _ => absurd c (by simp))
   replace HT := Lib.hid (HT.out.on (HT.out.rr.below hbx) (Mv.of_below hbx))
   have HN := Lib.hid hrow
   clear hbx hrow
   try unfold ndC
   go_wp2_with fail
   clear x0 x1 x2 x3 y0 y1 y2 y3 HB HQ
   obtain ⟨g6, hg6⟩ : ∃ g6, w35.heap.size = g6 := ⟨_, rfl⟩
   rw [hg6] at HN ⊢
   generalize w35.alloc (.cells #[.int .i64 q8.kind, .string q8.text, .int .i64 q8.at_, .slice q8.p q8.n q8.cap, .int .i64 q2.kind, .string q2.text, .int .i64 q2.at_, .slice q2.p q2.n q2.cap] 40) = w36 at *
   clear hg6
   refine (leaf_r 8 nm a (some ⟨g6, 0, none⟩) 2 2 _ HT.out.rr).mono ?_
   rintro e w360 ⟨rfl, hr, hm⟩
   replace HT := Lib.hid (HT.out.on hr hm)
   replace HN := Lib.hid (HN.out.but hm (fun a e q => by have e2 : a.block = r.b := e; have := HT.out.rb; omega))
   clear hr hm
   have HW := Lib.hid (HT.out.ret (q := ⟨8, nm, a, some ⟨g6, 0, none⟩, 2, 2⟩) (IsT.node _ _ _ HN.out))
   obtain ⟨d0, d1, d2, d3, f0⟩ := HT.out.res.cells
   try unfold ndC
   go_wp2_with fail
   obtain ⟨hcell, hist, hrr, hmv⟩ := HW.out
   exact bodyPost_ret (results_cellT rfl _ _ _ ⟨w.heap.size, 0, none⟩ _ rfl (load_node _ _ ⟨8, nm, a, some ⟨g6, 0, none⟩, 2, 2⟩ hcell)) rfl (HD.out.postP hist hrr hmv)
  ·obtain ⟨i10, hi10, ha10⟩ := took_true HTK.out hz
   subst hi10
   rw [ha10] at HT HD
   obtain ⟨hij, hro⟩ := HG9.out i10 rfl
   clear HTK hz ha10 HG9
   have hrm := roomOf_eq HT.out.rr
   have hlt2 := HT.out.rr.lt
   go_wp2_with fail
   go_roundw
   case rel => exact ⟨f', q8, t8, _, HT.out, HB.out, HD.out, HK7.out, hf8, by omega, fun i e => by cases e; omega⟩
   case measure => rw [hrm, HRM.out]; simp only [room] at hro ⊢; omega
end Go.Proofs.YtgcaeimlmkkeoaaGreat
namespace Go.Proofs.YtgcaeimlmkkeoaaGreat
open Go Go.RowKit
theorem up_argFin (r : Rdr) (en : ByteArray) (a : Int) (ts : List Tree) : Up (argFin r en a ts) := up_bind (ups_need r _).up fun _ => up_nd _ _ _ _
theorem up_argH (r : Rdr) (en : ByteArray) (T : PM Tree) (hT : Up T) (a : Int) : ∀ (f : Nat) (ts : List Tree), Up (argH r en T a f ts)
 | 0, ts => up_bind (up_is r en) fun b => by split; exact up_argFin r en a ts; exact ups_fail.up
 | f + 1, ts => up_bind (up_is r en) fun b => by
  split
  ·exact up_argFin r en a ts
  ·exact up_bind (up_here r) fun a1 => up_bind (ups_name r).up fun nm => up_bind (ups_need r _).up fun _ => up_bind hT fun ty => up_bind (up_took r _) fun c => by
    split
    ·exact up_argFin r en a _
    ·exact up_bind (up_is r en) fun d => by
      split
      ·exact ups_fail.up
      ·exact up_argH r en T hT a f _
theorem up_argsR (r : Rdr) (en : ByteArray) (T : PM Tree) (hT : Up T) : Up (argsR r en T) := up_bind (up_here r) fun a => up_argH r en T hT a _ _
theorem up_resultR (r : Rdr) (T : PM Tree) (hT : Up T) : Up (resultR r T) := by rw [resultR_eq]; exact up_result hT
theorem up_funR0 (r : Rdr) (T Bk : PM Tree) (hT : Up T) (hB : Up Bk) (a : Int) : Up (funR r false T Bk a) := up_bind (ups_name r).up fun nm => up_bind (up_here r) fun a2 => up_bind (ups_need r _).up fun _ => up_bind (up_argsR r _ T hT) fun q => up_bind (up_resultR r T hT) fun o => up_bind hB fun b => up_nd _ _ _ _
end Go.Proofs.YtgcaeimlmkkeoaaGreat
