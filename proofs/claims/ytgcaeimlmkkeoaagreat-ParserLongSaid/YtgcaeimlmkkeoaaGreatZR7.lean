/-
  CONTRACT: the reference's reader: args.
-/
import Derived.Test.YtgcaeimlmkkeoaaGreatZR6
set_option linter.unusedSimpArgs false
set_option linter.unusedVariables false
namespace Go.Proofs.YtgcaeimlmkkeoaaGreat
open Go Go.RowKit
-- a variable's block is written beside a list that was there
def Sk (r : Rdr) (g : Nat) (W W' : World) : Prop := But (fun a => a.block = r.b ∨ a.block = g) W W'
theorem Sk.on {r : Rdr} {g : Nat} {W W' W2 : World} (h : Sk r g W W') (hm : Mv r W' W2) : Sk r g W W2 := But.trans h (But.mono hm (fun _ q => .inl q))
theorem Sk.poke {r : Rdr} {g : Nat} {W W' : World} (h : Sk r g W W') (k : Nat) (v : Value) : Sk r g W (W'.setCell ⟨g, k, none⟩ v) := But.trans h (But.setCell _ _ _ (.inr rfl))
theorem KBox.sk {r : Rdr} {w0 : World} {g g' : Nat} {q : Raw} {t : Tree} {W W' : World} (h : KBox r w0 g q t W) (hs : Sk r g' W W') (hg : W.heap.size ≤ g') : KBox r w0 g q t W' := by
 have hlt := lt_heap h.box.z
 have hn := h.box.new
 have ho := h.box.old
 refine ⟨⟨by rw [But.block hs g hlt (fun a ha e => by rcases e with e | e <;> omega)]; exact h.box.z, h.box.new, h.box.old⟩, ?_, h.kd, h.tx, h.pl⟩
 obtain ⟨R, ⟨h1, h2⟩, hl, ht⟩ := h.nodes
 refine ⟨R, ⟨h1, ?_⟩, hl, fun i a c => ((ht i a c).old.but hs (fun a e q => by rcases e with e | e <;> omega)).mono (fun b hb => hb.1)⟩
 rcases h2 with h2 | ⟨g2, cap, cur, hv, hg2, hh, rest⟩
 ·exact .inl h2
 ·exact .inr ⟨g2, cap, cur, hv, hg2, by rw [But.block hs g2 (lt_heap hh) (fun a ha e => by have := lt_heap hh; rcases e with e | e <;> omega)]; exact hh, rest⟩
/-- the variable's text -/
theorem Var.text {r : Rdr} {w0 : World} {g : Nat} {k : Int} {t : ByteArray} {a : Int} {p : Option Addr} {n c : Nat} {l : List Tree} {W : World} (h : Var r w0 g ⟨k, t, a, p, n, c⟩ (.mk k t a l) W) (t' : ByteArray) : Var r w0 g ⟨k, t', a, p, n, c⟩ (.mk k t' a l) (W.setCell ⟨g, 1, none⟩ (.string t')) := by
 have key : But (fun a => a.block = g) W (W.setCell ⟨g, 1, none⟩ (.string t')) := But.setCell W _ _ rfl
 obtain ⟨_, _, _, hk⟩ := h.tree.parts
 exact ⟨⟨heap_setCell_same _ _ _ _ _ _ h.box.z, h.box.new, h.box.old⟩, (IsT.node k t' a hk).but key (fun x e q => q.2 e)⟩
/-- the variable's nodes -/
theorem Var.kids {r : Rdr} {w0 : World} {g : Nat} {k : Int} {t : ByteArray} {a : Int} {p p' : Option Addr} {n c n' c' : Nat} {l l' : List Tree} {W : World} (h : Var r w0 g ⟨k, t, a, p, n, c⟩ (.mk k t a l) W) (hl : IsTs (since w0 g) W (.slice p' n' c') l') : Var r w0 g ⟨k, t, a, p', n', c'⟩ (.mk k t a l') (W.setCell ⟨g, 3, none⟩ (.slice p' n' c')) := by
 have key : But (fun a => a.block = g) W (W.setCell ⟨g, 3, none⟩ (.slice p' n' c')) := But.setCell W _ _ rfl
 exact ⟨⟨heap_setCell_same _ _ _ _ _ _ h.box.z, h.box.new, h.box.old⟩, (IsT.node k t a hl).but key (fun x e q => q.2 e)⟩
/-- a variable whose node is of blocks behind its own -/
structure VarB (r : Rdr) (w0 : World) (g : Nat) (q : Raw) (t : Tree) (W : World) : Prop where
 box : BoxAt r w0 g q W
 tree : IsT (fun b => g < b) W q t
theorem VarB.on {r : Rdr} {w0 : World} {g : Nat} {q : Raw} {t : Tree} {W W' : World} (h : VarB r w0 g q t W) (hm : Mv r W W') : VarB r w0 g q t W' :=
 ⟨h.box.mvB hm h.box.old, h.tree.mvG hm (fun b hb => by have := h.box.new; have := h.box.old; omega)⟩
theorem VarB.first {r : Rdr} {w0 : World} {σ : Except Nat Nat} {s : Bool} {W : World} (k : Int) (t : ByteArray) (a : Int) (h : St r w0 σ s W) :
  VarB r w0 W.heap.size ⟨k, t, a, none, 0, 0⟩ (.mk k t a []) (W.alloc (.cells (ndC ⟨k, t, a, none, 0, 0⟩) 40)) :=
 ⟨⟨heap_alloc_new W _, lt_heap h.res.z, h.rb⟩, IsT.leaf _ _ _ _ _⟩
theorem VarB.text {r : Rdr} {w0 : World} {g : Nat} {k : Int} {t : ByteArray} {a : Int} {p : Option Addr} {n c : Nat} {l : List Tree} {W : World} (h : VarB r w0 g ⟨k, t, a, p, n, c⟩ (.mk k t a l) W) (t' : ByteArray) : VarB r w0 g ⟨k, t', a, p, n, c⟩ (.mk k t' a l) (W.setCell ⟨g, 1, none⟩ (.string t')) := by
 have key : But (fun a => a.block = g) W (W.setCell ⟨g, 1, none⟩ (.string t')) := But.setCell W _ _ rfl
 obtain ⟨_, _, _, hk⟩ := h.tree.parts
 exact ⟨⟨heap_setCell_same _ _ _ _ _ _ h.box.z, h.box.new, h.box.old⟩, (IsT.node k t' a hk).but key (fun x e q => by have e2 : x.block = g := e; omega)⟩
theorem VarB.kids {r : Rdr} {w0 : World} {g : Nat} {k : Int} {t : ByteArray} {a : Int} {p p' : Option Addr} {n c n' c' : Nat} {l l' : List Tree} {W : World} (h : VarB r w0 g ⟨k, t, a, p, n, c⟩ (.mk k t a l) W) (hl : IsTs (fun b => g < b) W (.slice p' n' c') l') : VarB r w0 g ⟨k, t, a, p', n', c'⟩ (.mk k t a l') (W.setCell ⟨g, 3, none⟩ (.slice p' n' c')) := by
 have key : But (fun a => a.block = g) W (W.setCell ⟨g, 3, none⟩ (.slice p' n' c')) := But.setCell W _ _ rfl
 exact ⟨⟨heap_setCell_same _ _ _ _ _ _ h.box.z, h.box.new, h.box.old⟩, (IsT.node k t a hl).but key (fun x e q => by have e2 : x.block = g := e; omega)⟩
/-- the list of the variable g gets a node that lies in a variable which was made behind it -/
theorem KBox.push {r : Rdr} {w0 : World} {σ : Except Nat Nat} {s : Bool} {g : Nat} {q : Raw} {t : Tree} {W W' : World} {v : Value} {u : Tree} (h : KBox r w0 g q t W) (hT : St r w0 σ s W) (hn : Nodes (g + 1) W' v (t.kids ++ [u])) (hg : W.grownBy W' (Value.slice q.p q.n q.cap).ownBlock) :
  BoxAt r w0 g q W' ∧ St r w0 σ s W' := by
 have hw := h.own
 have hr := hT.rb
 have hgs := h.box.new
 refine ⟨⟨by rw [hg.block g (lt_heap h.box.z) (fun e => by have := hw g e.symm; omega)]; exact h.box.z, h.box.new, h.box.old⟩, hT.rr.grown hg (fun b e => (hw b e).1), hT.mv.grown hg (fun b e => (hw b e).2.2.2), ⟨?_⟩, hT.rb⟩
 rw [hg.block w0.heap.size (lt_heap hT.res.z) (fun e => by have := hw _ e.symm; omega)]
 exact hT.res.z
/-- it has gone on at least to there -/
def Geq (i : Nat) (σ : Except Nat Nat) : Prop := ∀ j, σ = .ok j → i ≤ j
theorem Geq.after {α : Type} {p : PM α} {i : Nat} {σ : Except Nat Nat} (h : Geq i σ) (hp : Up p) : Geq i (Proofs.YtgcaeimlmkkeoaaGreat.after p σ) := fun j e => by
 cases σ with
 | error k => cases e
 | ok m => have h1 := h m rfl; have h2 := hp.after e; omega
theorem Geq.here (i : Nat) : Geq i (.ok i) := fun j e => by cases e; exact Nat.le_refl _
theorem Due.failed {α : Type} {P Q : PM α} {σ0 σ : Except Nat Nat} (h : Due P σ0 failM σ) : Due P σ0 Q (.error (badOf σ)) :=
 ⟨by rw [h.st, after_fail]; rfl, fun v _ => h.gt v (fun i x j e hx => by subst e; cases hx), fun k e => ⟨_, rfl⟩⟩
def argFin (r : Rdr) (en : ByteArray) (a : Int) (ts : List Tree) : PM Tree := bindM (needM r en) fun _ => ndM 12 ⟨#[]⟩ a ts
def argH (r : Rdr) (en : ByteArray) (T : PM Tree) (a : Int) : Nat → List Tree → PM Tree
 | 0, ts => bindM (isM r en) fun b => match b with
  | true => argFin r en a ts
  | false => failM
 | f + 1, ts => bindM (isM r en) fun b => match b with
  | true => argFin r en a ts
  | false => bindM (hereM r) fun a1 => bindM (nameM r) fun nm => bindM (needM r ⟨#[58]⟩) fun _ => bindM T fun ty => bindM (tookM r ⟨#[44]⟩) fun c => match c with
   | false => argFin r en a (ts ++ [.mk 13 nm a1 [ty]])
   | true => bindM (isM r en) fun d => match d with
    | true => failM
    | false => argH r en T a f (ts ++ [.mk 13 nm a1 [ty]])
def argK (r : Rdr) (en : ByteArray) (T : PM Tree) (a : Int) (f : Nat) (ts : List Tree) : PM Tree := bindM (hereM r) fun a1 => bindM (nameM r) fun nm => bindM (needM r ⟨#[58]⟩) fun _ => bindM T fun ty => bindM (tookM r ⟨#[44]⟩) fun c => match c with
 | false => argFin r en a (ts ++ [.mk 13 nm a1 [ty]])
 | true => bindM (isM r en) fun d => match d with
  | true => failM
  | false => argH r en T a f (ts ++ [.mk 13 nm a1 [ty]])
def argN (r : Rdr) (en : ByteArray) (T : PM Tree) (a : Int) (f : Nat) (ts : List Tree) : PM Tree := match f with
 | 0 => failM
 | f + 1 => argK r en T a f ts
theorem argH_eq (r : Rdr) (en : ByteArray) (T : PM Tree) (a : Int) (f : Nat) (ts : List Tree) : argH r en T a f ts = bindM (isM r en) fun b => match b with
  | true => argFin r en a ts
  | false => argN r en T a f ts := by cases f <;> rfl
def argsR (r : Rdr) (en : ByteArray) (T : PM Tree) : PM Tree := bindM (hereM r) fun a => argH r en T a (r.L.length + 1) []
set_option maxRecDepth 100000 in
set_option maxHeartbeats 4000000 in
theorem rArgs_any (r : Rdr) (σ : Except Nat Nat) (s : Bool) (T : PM Tree) (en : ByteArray) (hen : en.size ≠ 0 ∧ en.toList ∈ knownL) (hup : Up T) (w : World) (h : RrAt r σ s w) (hE : EndAt r) (hK : Known r.L) (hT : ∀ σ1 w1, RrAt r σ1 s w1 → Calls Tryz.prog 41 #[.pointer (some ⟨r.b, 0, none⟩), .int .i64 1] w1 (RrPost r T σ1 s w1)) :
  Calls Tryz.prog 61 #[.pointer (some ⟨r.b, 0, none⟩), .string en] w (RrPost r (argsR r en T) σ s w) := by
 have HT := Lib.hid (St.start h)
 have HE := Lib.hid hE
 have HK := Lib.hid hK
 have HTY := Lib.hid hT
 have HEN := Lib.hid hen
 obtain ⟨P, hP⟩ : ∃ P, (argsR r en T) = P := ⟨_, rfl⟩
 have hd : Due P σ (argsR r en T) σ := by rw [hP]; exact Due.refl _ _
 rw [hP]
 clear hP
 unfold argsR at hd
 have HD := Lib.hid hd
 clear h hE hK hd hT
 go_enter Tryz.func61, Tryz.ntmps61
 go_wp2_with fail
 generalize w.alloc (.cells #[.int .i64 0, .string ⟨#[]⟩, .int .i64 0, .slice none 0 0] 40) = w1 at *
 refine (here_r r _ s _ HT.out.rr).mono ?_
 rintro e w2 ⟨a, rfl, hr, hm, hg⟩
 replace HD := Lib.hid (HD.out.step hg)
 replace HT := Lib.hid (HT.out.on hr hm)
 clear hr hm hg
 go_wp2_with fail
 refine (leaf_r 12 ⟨#[]⟩ a none 0 0 _ HT.out.rr).mono ?_
 rintro e w3 ⟨rfl, hr, hm⟩
 replace HT := Lib.hid (HT.out.on hr hm)
 clear hr hm
 unfold ndC
 go_wp2_with fail
 have HB := Lib.hid (KBox.first 12 ⟨#[]⟩ a HT.out)
 have hbx := boxB w3 (.cells (ndC ⟨12, ⟨#[]⟩, a, none, 0, 0⟩) 40)
 replace HT := Lib.hid (HT.out.on (HT.out.rr.below hbx) (Mv.of_below hbx))
 clear hbx
 unfold ndC at HB HT
 obtain ⟨g, hg⟩ : ∃ g, w3.heap.size = g := ⟨_, rfl⟩
 rw [hg] at HB ⊢
 generalize w3.alloc (.cells #[.int .i64 12, .string ⟨#[]⟩, .int .i64 a, .slice none 0 0] 40) = w4 at *
 clear hg
 generalize after (hereM r) σ = σ4 at HT HD
 go_loopw [6] (fun x wr => ∃ (f : Nat) (q : Raw) (t : Tree) (σ9 : Except Nat Nat), Hid (St r w σ9 s wr) ∧ Hid (KBox r w g q t wr) ∧ Hid (Due P σ (argH r en T a f t.kids) σ9) ∧ Hid (t = .mk 12 ⟨#[]⟩ a t.kids) ∧ t.kids.length + f = r.L.length + 1 ∧ ∀ i, σ9 = .ok i → r.L.length ≤ f + i) (fun _ wr => roomOf r wr)
 case atStart => exact ⟨r.L.length + 1, _, .mk 12 ⟨#[]⟩ a [], σ4, HT.out, HB.out, HD.out, rfl, by simp [Tree.kids], fun i e => by omega⟩
 case round =>
  clear HT HB HD
  obtain ⟨f, q, t, σ9, HT, HB, HD, HKT, hf, HI0⟩ := hrel
  have HRM := Lib.hid (roomOf_eq HT.out.rr)
  have hfew := HT.out.rr.few
  replace HD := Lib.hid (HD.out.to (argH_eq r en T a f t.kids))
  go_wp2_with fail
  refine (is_r r _ s en _ HT.out.rr HK.out HEN.out.2).mono ?_
  rintro e w5 ⟨b, rfl, hr, hm, hg, hz⟩
  replace HD := Lib.hid (HD.out.step hg)
  replace HT := Lib.hid (HT.out.on hr hm)
  replace HB := Lib.hid (HB.out.on hm)
  have HRM3 : Hid (roomOf r w5 = room r σ9) := by have := roomOf_eq HT.out.rr; rw [after_is] at this; exact this
  clear hr hm hg
  rw [after_is] at HT HD
  cases b
  rotate_left
  ·clear HI0 HRM HRM3
   go_wp2_with fail
   replace HD : Hid (Due P σ (bindM (needM r en) fun _ => ndM 12 ⟨#[]⟩ a t.kids) σ9) := HD
   refine (need_r r _ s en _ HT.out.rr HE.out HK.out HEN.out.1 HEN.out.2).mono ?_
   rintro e w20 ⟨rfl, hr, hm⟩
   replace HD := Lib.hid (HD.out.step (Got.unit _ _))
   replace HT := Lib.hid (HT.out.on hr hm)
   replace HB := Lib.hid (HB.out.on hm)
   clear hr hm
   replace HD := Lib.hid (HD.out.to (Q' := pureM t) (by have h := HKT.out; exact congrArg pureM h.symm))
   obtain ⟨b0, b1, b2, b3⟩ := HB.out.box.cells
   have HW := Lib.hid (HT.out.ret (q := q) (HB.out.tree))
   obtain ⟨d0, d1, d2, d3, f0⟩ := HT.out.res.cells
   try unfold ndC
   go_wp2_with fail
   obtain ⟨hcell, hist, hrr, hmv⟩ := HW.out
   exact bodyPost_ret (results_cellT rfl _ _ _ ⟨w.heap.size, 0, none⟩ _ rfl (load_node _ _ q hcell)) rfl (HD.out.postP hist hrr hmv)
  clear hz
  go_wp2_with fail
  refine (ok_r r _ s _ HT.out.rr).mono ?_
  rintro e w6 ⟨b, rfl, rfl, hb⟩
  rcases hb with ⟨rfl, i9, rfl⟩ | ⟨rfl, k, rfl⟩
  rotate_left
  ·clear HI0 HRM HRM3
   go_wp2_with fail
   refine (need_r r _ s en _ HT.out.rr HE.out HK.out HEN.out.1 HEN.out.2).mono ?_
   rintro e w20 ⟨rfl, hr, hm⟩
   replace HT := Lib.hid (HT.out.on hr hm)
   replace HB := Lib.hid (HB.out.on hm)
   clear hr hm
   obtain ⟨b0, b1, b2, b3⟩ := HB.out.box.cells
   have HW := Lib.hid (HT.out.ret (q := q) (HB.out.tree))
   obtain ⟨d0, d1, d2, d3, f0⟩ := HT.out.res.cells
   try unfold ndC
   go_wp2_with fail
   obtain ⟨hcell, hist, hrr, hmv⟩ := HW.out
   exact bodyPost_ret (results_cellT rfl _ _ _ ⟨w.heap.size, 0, none⟩ _ rfl (load_node _ _ q hcell)) rfl (HD.out.postE hist hrr hmv)
  have hfi := HI0 i9 rfl
  have hlt := HT.out.rr.lt
  obtain ⟨f', rfl⟩ : ∃ f', f = f' + 1 := ⟨f - 1, by omega⟩
  clear HI0
  replace HD : Hid (Due P σ (argK r en T a f' t.kids) (.ok i9)) := HD
  go_wp2_with fail
  refine (here_r r _ s _ HT.out.rr).mono ?_
  rintro e w7 ⟨a1, rfl, hr, hm, hg⟩
  replace HD := Lib.hid (HD.out.step hg)
  replace HT := Lib.hid (HT.out.on hr hm)
  replace HB := Lib.hid (HB.out.on hm)
  clear hr hm hg
  go_wp2_with fail
  refine (leaf_r 13 ⟨#[]⟩ a1 none 0 0 _ HT.out.rr).mono ?_
  rintro e w8 ⟨rfl, hr, hm⟩
  replace HT := Lib.hid (HT.out.on hr hm)
  replace HB := Lib.hid (HB.out.on hm)
  clear hr hm
  unfold ndC
  go_wp2_with fail
  have HV := Lib.hid (VarB.first 13 ⟨#[]⟩ a1 HT.out)
  have hbx := boxB w8 (.cells (ndC ⟨13, ⟨#[]⟩, a1, none, 0, 0⟩) 40)
  replace HT := Lib.hid (HT.out.on (HT.out.rr.below hbx) (Mv.of_below hbx))
  obtain ⟨g2, hg2⟩ : ∃ g, w8.heap.size = g := ⟨_, rfl⟩
  have HSK : Hid (Sk r g2 w8 (w8.alloc (.cells (ndC ⟨13, ⟨#[]⟩, a1, none, 0, 0⟩) 40))) := But.of_below hbx
  clear hbx
  unfold ndC at HV HT HSK
  have HG2 := Lib.hid hg2
  have HOW : Hid (∀ b, (Value.slice q.p q.n q.cap).ownBlock = some b → b < g2 ∧ g < b ∧ w.heap.size ≤ b) := fun b e => by have := HB.out.own b e; omega
  have HGG : Hid (g < g2) := by show g < g2; have := lt_heap HB.out.box.z; omega
  rw [hg2] at HV ⊢
  generalize w8.alloc (.cells #[.int .i64 13, .string ⟨#[]⟩, .int .i64 a1, .slice none 0 0] 40) = w9 at *
  clear hg2
  refine (name_r r _ s _ HT.out.rr HE.out).mono ?_
  rintro e w10 ⟨nm, rfl, hr, hm, hg⟩
  replace HD := Lib.hid (HD.out.step hg)
  replace HT := Lib.hid (HT.out.on hr hm)
  replace HV := Lib.hid (HV.out.on hm)
  replace HSK := Lib.hid (HSK.out.on hm)
  clear hr hm hg
  obtain ⟨v0, v1, v2, v3⟩ := HV.out.box.cells
  have fz := HV.out.box.warm'
  replace HT := Lib.hid (HT.out.poke g2 1 (.string nm) HV.out.box.new)
  replace HV := Lib.hid (HV.out.text nm)
  replace HSK := Lib.hid (HSK.out.poke 1 (.string nm))
  go_wp2_with fail
  clear v0 v1 v2 v3 fz
  generalize w10.setCell ⟨g2, 1, none⟩ (.string nm) = w11 at *
  refine (need_r r _ s ⟨#[58]⟩ _ HT.out.rr HE.out HK.out (by decide) (known_of (by decide))).mono ?_
  rintro e w12 ⟨rfl, hr, hm⟩
  replace HD := Lib.hid (HD.out.step (Got.unit _ _))
  replace HT := Lib.hid (HT.out.on hr hm)
  replace HV := Lib.hid (HV.out.on hm)
  replace HSK := Lib.hid (HSK.out.on hm)
  clear hr hm
  go_wp2_with fail
  refine (HTY.out _ _ HT.out.rr).mono ?_
  rintro e w13 ⟨q5, t5, rfl, ht, hr, hm, hg⟩
  have HI := Lib.hid (ht.mono (A' := fun b => g2 < b) (fun b hb => by have := lt_heap HV.out.box.z; omega))
  replace HD := Lib.hid (HD.out.step hg)
  replace HT := Lib.hid (HT.out.on hr hm)
  replace HV := Lib.hid (HV.out.on hm)
  replace HSK := Lib.hid (HSK.out.on hm)
  clear hr hm hg ht
  have hbx := boxB w13 (.cells #[.int .i64 q5.kind, .string q5.text, .int .i64 q5.at_, .slice q5.p q5.n q5.cap] 40)
  have hrow : IsTs (fun b => g2 < b) (w13.alloc (.cells #[.int .i64 q5.kind, .string q5.text, .int .i64 q5.at_, .slice q5.p q5.n q5.cap] 40)) (.slice (some ⟨w13.heap.size, 0, none⟩) 1 1) [t5] := IsTs.rowAt _ [q5] [t5] (heap_alloc_new w13 _) rfl rfl rfl (by decide) (by decide) (lt_heap HV.out.box.z) (fun i a b => match i, a, b with | 0, _, _ => HI.out.later hbx | i + 1, c, _ => absurd c (by simp))
  replace HT := Lib.hid (HT.out.on (HT.out.rr.below hbx) (Mv.of_below hbx))
  replace HV := Lib.hid (HV.out.on (Mv.of_below hbx))
  replace HSK := Lib.hid (HSK.out.on (Mv.of_below hbx))
  obtain ⟨v0, v1, v2, v3⟩ := HV.out.box.cells
  have fz := HV.out.box.warm'
  replace HT := Lib.hid (HT.out.poke g2 3 (.slice (some ⟨w13.heap.size, 0, none⟩) 1 1) HV.out.box.new)
  replace HV := Lib.hid (HV.out.kids hrow)
  replace HSK := Lib.hid (HSK.out.poke 3 (.slice (some ⟨w13.heap.size, 0, none⟩) 1 1))
  replace HB := Lib.hid (HB.out.sk HSK.out (Nat.le_of_eq HG2.out))
  clear hbx hrow HI
  have hsz : ((w13.alloc (.cells #[.int .i64 q5.kind, .string q5.text, .int .i64 q5.at_, .slice q5.p q5.n q5.cap] 40)).setCell ⟨g2, 3, none⟩ (.slice (some ⟨w13.heap.size, 0, none⟩) 1 1)).heap.size = w13.heap.size + 1 := by simp [World.setCell]
  obtain ⟨b0, b1, b2, b3⟩ := HB.out.box.cells
  obtain ⟨u0, u1, u2, u3⟩ := HV.out.box.cells
  have hbx := boxB ((w13.alloc (.cells #[.int .i64 q5.kind, .string q5.text, .int .i64 q5.at_, .slice q5.p q5.n q5.cap] 40)).setCell ⟨g2, 3, none⟩ (.slice (some ⟨w13.heap.size, 0, none⟩) 1 1)) (.cells #[.int .i64 13, .string nm, .int .i64 a1, .slice (some ⟨w13.heap.size, 0, none⟩) 1 1] 40)
  have hnew := heap_alloc_new ((w13.alloc (.cells #[.int .i64 q5.kind, .string q5.text, .int .i64 q5.at_, .slice q5.p q5.n q5.cap] 40)).setCell ⟨g2, 3, none⟩ (.slice (some ⟨w13.heap.size, 0, none⟩) 1 1)) (.cells #[.int .i64 13, .string nm, .int .i64 a1, .slice (some ⟨w13.heap.size, 0, none⟩) 1 1] 40 (0, 0))
  rw [hsz] at hnew
  have hrow : IsTs (fun b => g2 < b) (((w13.alloc (.cells #[.int .i64 q5.kind, .string q5.text, .int .i64 q5.at_, .slice q5.p q5.n q5.cap] 40)).setCell ⟨g2, 3, none⟩ (.slice (some ⟨w13.heap.size, 0, none⟩) 1 1)).alloc (.cells #[.int .i64 13, .string nm, .int .i64 a1, .slice (some ⟨w13.heap.size, 0, none⟩) 1 1] 40)) (.slice (some ⟨w13.heap.size + 1, 0, none⟩) 1 1) [.mk 13 nm a1 [t5]] := IsTs.rowAt _ [⟨13, nm, a1, some ⟨w13.heap.size, 0, none⟩, 1, 1⟩] [.mk 13 nm a1 [t5]] hnew rfl rfl rfl (by decide) (by decide) (by have := lt_heap HV.out.box.z; rw [hsz] at this; omega) (fun i a b => match i, a, b with | 0, _, _ => HV.out.tree.later hbx | i + 1, c, _ => absurd c (by simp))
  have hnn := HB.out.nodes.but0 (But.of_below hbx)
  have HT2 := Lib.hid (HT.out.on (HT.out.rr.below hbx) (Mv.of_below hbx))
  have HB2 := Lib.hid (HB.out.on (Mv.of_below hbx))
  have HSZ := Lib.hid hsz
  unfold ndC
  go_wp2_with (at_builtin; go_must (refine wpList_pushRr (A := fun b => g2 < b) (B := g + 1) (o := ⟨some 34, _, _, _, _, _⟩) rfl (.tmp 31) (.tmp 33) rfl rfl rfl hnn (by have := lt_heap HB2.out.box.z; omega) (by omega) hrow (fun b hb => ⟨by have := HGG.out; omega, fun e => by have := (HOW.out b e).1; omega⟩) ?_; intro v2 w15 hn2 hg2; have hpu := HB2.out.push HT2.out hn2 hg2; obtain ⟨p7, c7, rfl, -, -⟩ := hn2.slice; obtain ⟨n7, e7⟩ : ∃ n7, (t.kids ++ [Tree.mk 13 nm a1 [t5]]).length = n7 := ⟨_, rfl⟩; rw [e7] at hn2 ⊢; clear e7; obtain ⟨bb0, bb1, bb2, bb3⟩ := hpu.1.cells; have ff := hpu.1.warm'))
  replace HT := Lib.hid (hpu.2.poke g 3 (.slice p7 n7 c7) HB2.out.box.new)
  replace HB := Lib.hid (HB2.out.store hpu.1 hn2)
  have HK7 : Hid (Tree.mk t.kind t.text t.at_ (t.kids ++ [.mk 13 nm a1 [t5]]) = .mk 12 ⟨#[]⟩ a (t.kids ++ [.mk 13 nm a1 [t5]])) := by show _ = _; rw [HKT.out]; rfl
  have HGE : Hid (Geq i9 (after T (after (needM r ⟨#[58]⟩) (after (nameM r) (after (hereM r) (.ok i9)))))) := ((((Geq.here i9).after (up_here r)).after (ups_name r).up).after (ups_need r _).up).after hup
  clear hn2 hg2 hpu bb0 bb1 bb2 bb3 ff hbx hnew hrow hnn HT2 HB2 HSZ hsz b0 b1 b2 b3 u0 u1 u2 u3 v0 v1 v2 v3 fz HV HSK HG2 HOW HGG
  generalize w15.setCell ⟨g, 3, none⟩ (.slice p7 n7 c7) = w16 at *
  obtain ⟨σ8, hσ8⟩ : ∃ σ8, after T (after (needM r ⟨#[58]⟩) (after (nameM r) (after (hereM r) (.ok i9)))) = σ8 := ⟨_, rfl⟩
  rw [hσ8] at HT HD HGE
  clear hσ8
  obtain ⟨q8, hq8⟩ : ∃ q8 : Raw, q8 = ⟨q.kind, q.text, q.at_, p7, n7, c7⟩ := ⟨_, rfl⟩
  obtain ⟨t8, ht8⟩ : ∃ t8, t8 = Tree.mk t.kind t.text t.at_ (t.kids ++ [.mk 13 nm a1 [t5]]) := ⟨_, rfl⟩
  have hk8 : t8.kids = t.kids ++ [.mk 13 nm a1 [t5]] := by rw [ht8]; rfl
  rw [← hq8, ← ht8] at HB
  rw [← ht8, ← hk8] at HK7
  rw [← hk8] at HD
  have hf8 : t8.kids.length + f' = r.L.length + 1 := by rw [hk8, List.length_append]; simp only [List.length_cons, List.length_nil]; omega
  clear hq8 ht8 hk8 HKT
  refine (take_r r _ s ⟨#[44]⟩ _ HT.out.rr HE.out HK.out (by decide) (known_of (by decide))).mono ?_
  rintro e w17 ⟨b, rfl, hr, hm, hg, hz⟩
  have HTK := Lib.hid hg
  replace HD := Lib.hid (HD.out.step hg)
  replace HT := Lib.hid (HT.out.on hr hm)
  replace HB := Lib.hid (HB.out.on hm)
  clear hr hm hg
  cases b
  ·go_wp2_with fail
   replace HD := Lib.hid (HD.out.to (Q' := bindM (needM r en) fun _ => ndM 12 ⟨#[]⟩ a t8.kids) rfl)
   refine (need_r r _ s en _ HT.out.rr HE.out HK.out HEN.out.1 HEN.out.2).mono ?_
   rintro e w20 ⟨rfl, hr, hm⟩
   replace HD := Lib.hid (HD.out.step (Got.unit _ _))
   replace HT := Lib.hid (HT.out.on hr hm)
   replace HB := Lib.hid (HB.out.on hm)
   clear hr hm
   replace HD := Lib.hid (HD.out.to (Q' := pureM t8) (by have h := HK7.out; exact congrArg pureM h.symm))
   obtain ⟨b0, b1, b2, b3⟩ := HB.out.box.cells
   have HW := Lib.hid (HT.out.ret (q := q8) (HB.out.tree))
   obtain ⟨d0, d1, d2, d3, f0⟩ := HT.out.res.cells
   try unfold ndC
   go_wp2_with fail
   obtain ⟨hcell, hist, hrr, hmv⟩ := HW.out
   exact bodyPost_ret (results_cellT rfl _ _ _ ⟨w.heap.size, 0, none⟩ _ rfl (load_node _ _ q8 hcell)) rfl (HD.out.postP hist hrr hmv)
  ·obtain ⟨i10, hi10, ha10⟩ := took_true HTK.out hz
   subst hi10
   rw [ha10] at HT HD
   have hij := HGE.out i10 rfl
   clear HTK hz ha10 HGE
   go_wp2_with fail
   refine (is_r r _ s en _ HT.out.rr HK.out HEN.out.2).mono ?_
   rintro e w18 ⟨b, rfl, hr, hm, hg, hz⟩
   replace HD := Lib.hid (HD.out.step hg)
   replace HT := Lib.hid (HT.out.on hr hm)
   replace HB := Lib.hid (HB.out.on hm)
   clear hr hm hg hz
   rw [after_is] at HT HD
   cases b
   ·have hrm := roomOf_eq HT.out.rr
    have hlt2 := HT.out.rr.lt
    go_wp2_with fail
    go_roundw
    case rel => exact ⟨f', q8, t8, _, HT.out, HB.out, HD.out, HK7.out, hf8, fun i e => by cases e; omega⟩
    case measure => rw [hrm, HRM.out]; simp only [room]; omega
   ·go_wp2_with fail
    refine (rFail_any r _ s _ HT.out.rr).mono ?_
    rintro e w19 ⟨rfl, hr, hm⟩
    replace HT := Lib.hid (HT.out.on hr hm)
    replace HB := Lib.hid (HB.out.on hm)
    replace HD := Lib.hid (HD.out.failed (Q := argH r en T a f' t8.kids))
    clear hr hm
    have hrm := roomOf_eq HT.out.rr
    go_wp2_with fail
    go_roundw
    case rel => exact ⟨f', q8, t8, _, HT.out, HB.out, HD.out, HK7.out, hf8, fun i e => by cases e⟩
    case measure => rw [hrm, HRM.out]; simp only [room]; omega
end Go.Proofs.YtgcaeimlmkkeoaaGreat
namespace Go.Proofs.YtgcaeimlmkkeoaaGreat
open Go Go.RowKit
def parFin (r : Rdr) (a : Int) (ts : List Tree) : PM Tree := bindM (needM r ⟨#[62]⟩) fun _ => ndM 10 ⟨#[]⟩ a ts
/-- a type parameter -/
def parK (r : Rdr) (K : Tree → PM Tree) : PM Tree := bindM (hereM r) fun a1 => bindM (nameM r) fun nm => bindM (tookM r ⟨#[58]⟩) fun b => match b with
 | true => bindM (hereM r) fun a2 => bindM (nameM r) fun n2 => K (.mk 11 nm a1 [.mk 22 n2 a2 []])
 | false => K (.mk 11 nm a1 [])
def parH (r : Rdr) (a : Int) : Nat → List Tree → PM Tree
 | 0, _ => failM
 | f + 1, ts => parK r fun u => bindM (tookM r ⟨#[44]⟩) fun c => match c with
  | true => parH r a f (ts ++ [u])
  | false => parFin r a (ts ++ [u])
def parE (r : Rdr) (a : Int) (f : Nat) (ts : List Tree) : PM Tree := bindM (tookM r ⟨#[44]⟩) fun c => match c with
 | true => parH r a f ts
 | false => parFin r a ts
def paramsR (r : Rdr) : PM Tree := bindM (hereM r) fun a => bindM (tookM r ⟨#[60]⟩) fun b => match b with
 | true => parH r a (r.L.length + 1) []
 | false => ndM 10 ⟨#[]⟩ a []
def Sk2 (r : Rdr) (N : Nat) (W W' : World) : Prop := But (fun a => a.block = r.b ∨ N ≤ a.block) W W'
theorem Sk2.on {r : Rdr} {N : Nat} {W W' W2 : World} (h : Sk2 r N W W') (hm : Mv r W' W2) : Sk2 r N W W2 := But.trans h (But.mono hm (fun _ q => .inl q))
theorem Sk2.poke {r : Rdr} {N : Nat} {W W' : World} (h : Sk2 r N W W') (g k : Nat) (v : Value) (hg : N ≤ g) : Sk2 r N W (W'.setCell ⟨g, k, none⟩ v) := But.trans h (But.setCell _ _ _ (.inr hg))
theorem KBox.sk2 {r : Rdr} {w0 : World} {g N : Nat} {q : Raw} {t : Tree} {W W' : World} (h : KBox r w0 g q t W) (hs : Sk2 r N W W') (hN : W.heap.size = N) : KBox r w0 g q t W' := by
 subst hN
 have hlt := lt_heap h.box.z
 have hn := h.box.new
 have ho := h.box.old
 refine ⟨⟨by rw [But.block hs g hlt (fun a ha e => by rcases e with e | e <;> omega)]; exact h.box.z, h.box.new, h.box.old⟩, ?_, h.kd, h.tx, h.pl⟩
 obtain ⟨R, ⟨h1, h2⟩, hl, ht⟩ := h.nodes
 refine ⟨R, ⟨h1, ?_⟩, hl, fun i a c => ((ht i a c).old.but hs (fun a e q => by rcases e with e | e <;> omega)).mono (fun b hb => hb.1)⟩
 rcases h2 with h2 | ⟨g2, cap, cur, hv, hg2, hh, rest⟩
 ·exact .inl h2
 ·exact .inr ⟨g2, cap, cur, hv, hg2, by rw [But.block hs g2 (lt_heap hh) (fun a ha e => by have := lt_heap hh; rcases e with e | e <;> omega)]; exact hh, rest⟩
theorem VarB.leafBut {r : Rdr} {w0 : World} {g : Nat} {k : Int} {t : ByteArray} {a : Int} {M : Addr → Prop} {W W' : World} (h : VarB r w0 g ⟨k, t, a, none, 0, 0⟩ (.mk k t a []) W) (hb : But M W W') (hM : ∀ x, M x → x.block ≠ g) : VarB r w0 g ⟨k, t, a, none, 0, 0⟩ (.mk k t a []) W' :=
 ⟨⟨by rw [But.block hb g (lt_heap h.box.z) (fun x hx e => hM x e hx)]; exact h.box.z, h.box.new, h.box.old⟩, IsT.leaf _ _ _ _ _⟩
set_option maxRecDepth 100000 in
set_option maxHeartbeats 4000000 in
theorem rParams_any (r : Rdr) (σ : Except Nat Nat) (s : Bool)  (w : World) (h : RrAt r σ s w) (hE : EndAt r) (hK : Known r.L) :
  Calls Tryz.prog 60 #[.pointer (some ⟨r.b, 0, none⟩)] w (RrPost r (paramsR r) σ s w) := by
 have HT := Lib.hid (St.start h)
 have HE := Lib.hid hE
 have HK := Lib.hid hK
 obtain ⟨P, hP⟩ : ∃ P, (paramsR r) = P := ⟨_, rfl⟩
 have hd : Due P σ (paramsR r) σ := by rw [hP]; exact Due.refl _ _
 rw [hP]
 clear hP
 unfold paramsR at hd
 have HD := Lib.hid hd
 clear h hE hK hd
 go_enter Tryz.func60, Tryz.ntmps60
 go_wp2_with fail
 generalize w.alloc (.cells #[.int .i64 0, .string ⟨#[]⟩, .int .i64 0, .slice none 0 0] 40) = w1 at *
 refine (here_r r _ s _ HT.out.rr).mono ?_
 rintro e w2 ⟨a, rfl, hr, hm, hg⟩
 replace HD := Lib.hid (HD.out.step hg)
 replace HT := Lib.hid (HT.out.on hr hm)
 clear hr hm hg
 go_wp2_with fail
 refine (leaf_r 10 ⟨#[]⟩ a none 0 0 _ HT.out.rr).mono ?_
 rintro e w3 ⟨rfl, hr, hm⟩
 replace HT := Lib.hid (HT.out.on hr hm)
 clear hr hm
 unfold ndC
 go_wp2_with fail
 have HB := Lib.hid (KBox.first 10 ⟨#[]⟩ a HT.out)
 have hbx := boxB w3 (.cells (ndC ⟨10, ⟨#[]⟩, a, none, 0, 0⟩) 40)
 replace HT := Lib.hid (HT.out.on (HT.out.rr.below hbx) (Mv.of_below hbx))
 clear hbx
 unfold ndC at HB HT
 obtain ⟨g, hg⟩ : ∃ g, w3.heap.size = g := ⟨_, rfl⟩
 rw [hg] at HB ⊢
 generalize w3.alloc (.cells #[.int .i64 10, .string ⟨#[]⟩, .int .i64 a, .slice none 0 0] 40) = w4 at *
 clear hg
 refine (take_r r _ s ⟨#[60]⟩ _ HT.out.rr HE.out HK.out (by decide) (known_of (by decide))).mono ?_
 rintro e w5 ⟨b, rfl, hr, hm, hg, hz⟩
 have HTK := Lib.hid hg
 replace HD := Lib.hid (HD.out.step hg)
 replace HT := Lib.hid (HT.out.on hr hm)
 replace HB := Lib.hid (HB.out.on hm)
 clear hr hm hg
 cases b
 ·obtain ⟨b0, b1, b2, b3⟩ := HB.out.box.cells
  have HW := Lib.hid (HT.out.ret (q := ⟨10, ⟨#[]⟩, a, none, 0, 0⟩) (HB.out.tree))
  obtain ⟨d0, d1, d2, d3, f0⟩ := HT.out.res.cells
  try unfold ndC
  go_wp2_with fail
  obtain ⟨hcell, hist, hrr, hmv⟩ := HW.out
  exact bodyPost_ret (results_cellT rfl _ _ _ ⟨w.heap.size, 0, none⟩ _ rfl (load_node _ _ ⟨10, ⟨#[]⟩, a, none, 0, 0⟩ hcell)) rfl (HD.out.postP hist hrr hmv)
 obtain ⟨i0, hi0, ha0⟩ := took_true HTK.out hz
 rw [ha0] at HT HD
 clear HTK hz hi0 ha0
 go_wp2_with fail
 go_loopw [4, 5] (fun x y wr => ∃ (f : Nat) (q : Raw) (t : Tree) (i9 : Nat), Hid (St r w (.ok i9) s wr) ∧ Hid (KBox r w g q t wr) ∧ Hid (Due P σ (parH r a f t.kids) (.ok i9)) ∧ Hid (t = .mk 10 ⟨#[]⟩ a t.kids) ∧ t.kids.length + f = r.L.length + 1 ∧ r.L.length ≤ f + i9) (fun _ _ wr => roomOf r wr)
 case atStart => exact ⟨r.L.length + 1, _, .mk 10 ⟨#[]⟩ a [], i0 + 1, HT.out, HB.out, HD.out, rfl, by simp [Tree.kids], by omega⟩
 case round =>
  clear HT HB HD
  obtain ⟨f, q, t, i9, HT, HB, HD, HKT, hf, hfi⟩ := hrel
  have HRM := Lib.hid (roomOf_eq HT.out.rr)
  have hfew := HT.out.rr.few
  have hlt := HT.out.rr.lt
  obtain ⟨f', rfl⟩ : ∃ f', f = f' + 1 := ⟨f - 1, by omega⟩
  replace HD : Hid (Due P σ (parK r fun u => parE r a f' (t.kids ++ [u])) (.ok i9)) := HD
  go_wp2_with fail
  refine (here_r r _ s _ HT.out.rr).mono ?_
  rintro e w7 ⟨a1, rfl, hr, hm, hg⟩
  replace HD := Lib.hid (HD.out.step hg)
  replace HT := Lib.hid (HT.out.on hr hm)
  replace HB := Lib.hid (HB.out.on hm)
  clear hr hm hg
  go_wp2_with fail
  refine (leaf_r 11 ⟨#[]⟩ a1 none 0 0 _ HT.out.rr).mono ?_
  rintro e w8 ⟨rfl, hr, hm⟩
  replace HT := Lib.hid (HT.out.on hr hm)
  replace HB := Lib.hid (HB.out.on hm)
  clear hr hm
  unfold ndC
  go_wp2_with fail
  have HV := Lib.hid (VarB.first 11 ⟨#[]⟩ a1 HT.out)
  have hbx := boxB w8 (.cells (ndC ⟨11, ⟨#[]⟩, a1, none, 0, 0⟩) 40)
  replace HT := Lib.hid (HT.out.on (HT.out.rr.below hbx) (Mv.of_below hbx))
  obtain ⟨g2, hg2⟩ : ∃ g, w8.heap.size = g := ⟨_, rfl⟩
  have HSK : Hid (Sk2 r g2 w8 (w8.alloc (.cells (ndC ⟨11, ⟨#[]⟩, a1, none, 0, 0⟩) 40))) := But.of_below hbx
  have HG2 := Lib.hid hg2
  have HOW : Hid (∀ b, (Value.slice q.p q.n q.cap).ownBlock = some b → b < g2 ∧ g < b ∧ w.heap.size ≤ b) := fun b e => by have := HB.out.own b e; omega
  have HGG : Hid (g < g2) := by show g < g2; have := lt_heap HB.out.box.z; omega
  clear hbx
  unfold ndC at HV HT HSK 
  rw [hg2] at HV ⊢
  generalize w8.alloc (.cells #[.int .i64 11, .string ⟨#[]⟩, .int .i64 a1, .slice none 0 0] 40) = w9 at *
  clear hg2
  refine (name_r r _ s _ HT.out.rr HE.out).mono ?_
  rintro e w10 ⟨nm, rfl, hr, hm, hg⟩
  replace HD := Lib.hid (HD.out.step hg)
  replace HT := Lib.hid (HT.out.on hr hm)
  replace HV := Lib.hid (HV.out.on hm)
  replace HSK := Lib.hid (HSK.out.on hm)
  clear hr hm hg
  obtain ⟨v0, v1, v2, v3⟩ := HV.out.box.cells
  have fz := HV.out.box.warm'
  replace HT := Lib.hid (HT.out.poke g2 1 (.string nm) HV.out.box.new)
  replace HV := Lib.hid (HV.out.text nm)
  replace HSK := Lib.hid (HSK.out.poke g2 1 (.string nm) (Nat.le_refl _))
  go_wp2_with fail
  clear v0 v1 v2 v3 fz
  generalize w10.setCell ⟨g2, 1, none⟩ (.string nm) = w11 at *
  refine (take_r r _ s ⟨#[58]⟩ _ HT.out.rr HE.out HK.out (by decide) (known_of (by decide))).mono ?_
  rintro e w12 ⟨b, rfl, hr, hm, hg, hz⟩
  replace HD := Lib.hid (HD.out.step hg)
  replace HT := Lib.hid (HT.out.on hr hm)
  replace HV := Lib.hid (HV.out.on hm)
  replace HSK := Lib.hid (HSK.out.on hm)
  clear hr hm hg
  clear hz
  have HGE : Hid (Geq i9 (after (tookM r ⟨#[58]⟩) (after (nameM r) (after (hereM r) (.ok i9))))) := (((Geq.here i9).after (up_here r)).after (ups_name r).up).after (up_took r _)
  generalize after (tookM r ⟨#[58]⟩) (after (nameM r) (after (hereM r) (.ok i9))) = σ8 at HT HD HGE
  cases b
  ·replace HB := Lib.hid (HB.out.sk2 HSK.out HG2.out)
   obtain ⟨b0, b1, b2, b3⟩ := HB.out.box.cells
   obtain ⟨u0, u1, u2, u3⟩ := HV.out.box.cells
   have hbx := boxB (w12) (.cells #[.int .i64 11, .string nm, .int .i64 a1, .slice none 0 0] 40)
   have hnew := heap_alloc_new (w12) (.cells #[.int .i64 11, .string nm, .int .i64 a1, .slice none 0 0] 40 (0, 0))
   have hrow : IsTs (fun b => g2 < b) ((w12).alloc (.cells #[.int .i64 11, .string nm, .int .i64 a1, .slice none 0 0] 40)) (.slice (some ⟨w12.heap.size, 0, none⟩) 1 1) [.mk 11 nm a1 []] := IsTs.rowAt _ [⟨11, nm, a1, none, 0, 0⟩] [.mk 11 nm a1 []] hnew rfl rfl rfl (by decide) (by decide) (by have := lt_heap HV.out.box.z; omega) (fun i a b => match i, a, b with | 0, _, _ => HV.out.tree.later hbx | i + 1, c, _ => absurd c (by simp))
   have hnn := HB.out.nodes.but0 (But.of_below hbx)
   have HT2 := Lib.hid (HT.out.on (HT.out.rr.below hbx) (Mv.of_below hbx))
   have HB2 := Lib.hid (HB.out.on (Mv.of_below hbx))
   try unfold ndC
   go_wp2_with (at_builtin; go_must (refine wpList_pushRr (A := fun b => g2 < b) (B := g + 1) (o := ⟨some 34, _, _, _, _, _⟩) rfl (.tmp 31) (.tmp 33) rfl rfl rfl hnn (by have := lt_heap HB2.out.box.z; omega) (by omega) hrow (fun b hb => ⟨by have := HGG.out; omega, fun e => by have := (HOW.out b e).1; omega⟩) ?_; intro v2 w15 hn2 hg2; have hpu := HB2.out.push HT2.out hn2 hg2; obtain ⟨p7, c7, rfl, -, -⟩ := hn2.slice; obtain ⟨n7, e7⟩ : ∃ n7, (t.kids ++ [(.mk 11 nm a1 [] : Tree)]).length = n7 := ⟨_, rfl⟩; rw [e7] at hn2 ⊢; clear e7; obtain ⟨bb0, bb1, bb2, bb3⟩ := hpu.1.cells; have ff := hpu.1.warm'))
   replace HT := Lib.hid (hpu.2.poke g 3 (.slice p7 n7 c7) HB2.out.box.new)
   replace HB := Lib.hid (HB2.out.store hpu.1 hn2)
   have HK7 : Hid (Tree.mk t.kind t.text t.at_ (t.kids ++ [.mk 11 nm a1 []]) = .mk 10 ⟨#[]⟩ a (t.kids ++ [.mk 11 nm a1 []])) := by show _ = _; rw [HKT.out]; rfl
   clear hn2 hg2 hpu bb0 bb1 bb2 bb3 ff hbx hnew hrow hnn HT2 HB2 b0 b1 b2 b3 u0 u1 u2 u3
   generalize w15.setCell ⟨g, 3, none⟩ (.slice p7 n7 c7) = w16 at *
   obtain ⟨q8, hq8⟩ : ∃ q8 : Raw, q8 = ⟨q.kind, q.text, q.at_, p7, n7, c7⟩ := ⟨_, rfl⟩
   obtain ⟨t8, ht8⟩ : ∃ t8, t8 = Tree.mk t.kind t.text t.at_ (t.kids ++ [.mk 11 nm a1 []]) := ⟨_, rfl⟩
   have hk8 : t8.kids = t.kids ++ [.mk 11 nm a1 []] := by rw [ht8]; rfl
   rw [← hq8, ← ht8] at HB
   rw [← ht8, ← hk8] at HK7
   rw [← hk8] at HD
   have hf8 : t8.kids.length + f' = r.L.length + 1 := by rw [hk8, List.length_append]; simp only [List.length_cons, List.length_nil]; omega
   clear hq8 ht8 hk8 HKT
   replace HD : Hid (Due P σ (parE r a f' t8.kids) σ8) := HD
   clear HV HSK HG2 HOW HGG
   refine (take_r r _ s ⟨#[44]⟩ _ HT.out.rr HE.out HK.out (by decide) (known_of (by decide))).mono ?_
   rintro e w17 ⟨b, rfl, hr, hm, hg, hz⟩
   have HTK := Lib.hid hg
   replace HD := Lib.hid (HD.out.step hg)
   replace HT := Lib.hid (HT.out.on hr hm)
   replace HB := Lib.hid (HB.out.on hm)
   clear hr hm hg
   cases b
   ·go_wp2_with fail
    replace HD := Lib.hid (HD.out.to (Q' := bindM (needM r ⟨#[62]⟩) fun _ => ndM 10 ⟨#[]⟩ a t8.kids) rfl)
    refine (need_r r _ s ⟨#[62]⟩ _ HT.out.rr HE.out HK.out (by decide) (known_of (by decide))).mono ?_
    rintro e w20 ⟨rfl, hr, hm⟩
    replace HD := Lib.hid (HD.out.step (Got.unit _ _))
    replace HT := Lib.hid (HT.out.on hr hm)
    replace HB := Lib.hid (HB.out.on hm)
    clear hr hm
    replace HD := Lib.hid (HD.out.to (Q' := pureM t8) (by have h := HK7.out; exact congrArg pureM h.symm))
    obtain ⟨b0, b1, b2, b3⟩ := HB.out.box.cells
    have HW := Lib.hid (HT.out.ret (q := q8) (HB.out.tree))
    obtain ⟨d0, d1, d2, d3, f0⟩ := HT.out.res.cells
    try unfold ndC
    go_wp2_with fail
    obtain ⟨hcell, hist, hrr, hmv⟩ := HW.out
    exact bodyPost_ret (results_cellT rfl _ _ _ ⟨w.heap.size, 0, none⟩ _ rfl (load_node _ _ q8 hcell)) rfl (HD.out.postP hist hrr hmv)
   ·obtain ⟨i10, hi10, ha10⟩ := took_true HTK.out hz
    subst hi10
    rw [ha10] at HT HD
    have hij := HGE.out i10 rfl
    clear HTK hz ha10 HGE
    have hrm := roomOf_eq HT.out.rr
    have hlt2 := HT.out.rr.lt
    go_wp2_with fail
    go_roundw
    case rel => exact ⟨f', q8, t8, _, HT.out, HB.out, HD.out, HK7.out, hf8, by omega⟩
    case measure => rw [hrm, HRM.out]; simp only [room]; omega
  ·go_wp2_with fail
   refine (here_r r _ s _ HT.out.rr).mono ?_
   rintro e w13 ⟨a2, rfl, hr, hm, hg⟩
   replace HD := Lib.hid (HD.out.step hg)
   replace HT := Lib.hid (HT.out.on hr hm)
   replace HV := Lib.hid (HV.out.on hm)
   replace HSK := Lib.hid (HSK.out.on hm)
   clear hr hm hg
   go_wp2_with fail
   refine (leaf_r 22 ⟨#[]⟩ a2 none 0 0 _ HT.out.rr).mono ?_
   rintro e w14 ⟨rfl, hr, hm⟩
   replace HT := Lib.hid (HT.out.on hr hm)
   replace HV := Lib.hid (HV.out.on hm)
   replace HSK := Lib.hid (HSK.out.on hm)
   clear hr hm
   have HG3 : Hid (g2 < w14.heap.size) := lt_heap HV.out.box.z
   unfold ndC
   go_wp2_with fail
   have HW := Lib.hid (VarB.first 22 ⟨#[]⟩ a2 HT.out)
   have hbx := boxB w14 (.cells (ndC ⟨22, ⟨#[]⟩, a2, none, 0, 0⟩) 40)
   replace HT := Lib.hid (HT.out.on (HT.out.rr.below hbx) (Mv.of_below hbx))
   replace HV := Lib.hid (HV.out.on (Mv.of_below hbx))
   replace HSK := Lib.hid (HSK.out.on (Mv.of_below hbx))
   obtain ⟨g3, hg2⟩ : ∃ g, w14.heap.size = g := ⟨_, rfl⟩
   clear hbx
   unfold ndC at HW HT HV HSK
   rw [hg2] at HW HG3 ⊢
   generalize w14.alloc (.cells #[.int .i64 22, .string ⟨#[]⟩, .int .i64 a2, .slice none 0 0] 40) = w21 at *
   clear hg2
   refine (name_r r _ s _ HT.out.rr HE.out).mono ?_
   rintro e w22 ⟨n2, rfl, hr, hm, hg⟩
   replace HD := Lib.hid (HD.out.step hg)
   replace HT := Lib.hid (HT.out.on hr hm)
   replace HV := Lib.hid (HV.out.on hm)
   replace HSK := Lib.hid (HSK.out.on hm)
   replace HW := Lib.hid (HW.out.on hm)
   clear hr hm hg
   obtain ⟨z0, z1, z2, z3⟩ := HW.out.box.cells
   have fy := HW.out.box.warm'
   have key3 : But (fun a => a.block = g3) w22 (w22.setCell ⟨g3, 1, none⟩ (.string n2)) := But.setCell w22 _ _ rfl
   replace HT := Lib.hid (HT.out.poke g3 1 (.string n2) HW.out.box.new)
   replace HW := Lib.hid (HW.out.text n2)
   replace HV := Lib.hid (HV.out.leafBut key3 (fun x e => by have := HG3.out; have e2 : x.block = g3 := e; omega))
   replace HSK := Lib.hid (HSK.out.poke g3 1 (.string n2) (by have := HG3.out; omega))
   have hs1 : (w22.setCell ⟨g3, 1, none⟩ (.string n2)).heap.size = w22.heap.size := by simp [World.setCell]
   obtain ⟨y0, y1, y2, y3⟩ := HW.out.box.cells
   have hbx1 := boxB (w22.setCell ⟨g3, 1, none⟩ (.string n2)) (.cells #[.int .i64 22, .string n2, .int .i64 a2, .slice none 0 0] 40)
   have hnew1 := heap_alloc_new (w22.setCell ⟨g3, 1, none⟩ (.string n2)) (.cells #[.int .i64 22, .string n2, .int .i64 a2, .slice none 0 0] 40 (0, 0))
   rw [hs1] at hnew1
   have hrow1 : IsTs (fun b => g2 < b) ((w22.setCell ⟨g3, 1, none⟩ (.string n2)).alloc (.cells #[.int .i64 22, .string n2, .int .i64 a2, .slice none 0 0] 40)) (.slice (some ⟨w22.heap.size, 0, none⟩) 1 1) [.mk 22 n2 a2 []] := IsTs.rowAt _ [⟨22, n2, a2, none, 0, 0⟩] [.mk 22 n2 a2 []] hnew1 rfl rfl rfl (by decide) (by decide) (by have := lt_heap HV.out.box.z; rw [hs1] at this; omega) (fun i a b => match i, a, b with | 0, _, _ => IsT.leaf _ _ _ _ _ | i + 1, c, _ => absurd c (by simp))
   replace HT := Lib.hid (HT.out.on (HT.out.rr.below hbx1) (Mv.of_below hbx1))
   replace HV := Lib.hid (HV.out.on (Mv.of_below hbx1))
   replace HSK := Lib.hid (HSK.out.on (Mv.of_below hbx1))
   obtain ⟨v0, v1, v2', v3⟩ := HV.out.box.cells
   have fz := HV.out.box.warm'
   replace HT := Lib.hid (HT.out.poke g2 3 (.slice (some ⟨w22.heap.size, 0, none⟩) 1 1) HV.out.box.new)
   replace HV := Lib.hid (HV.out.kids hrow1)
   replace HSK := Lib.hid (HSK.out.poke g2 3 (.slice (some ⟨w22.heap.size, 0, none⟩) 1 1) (Nat.le_refl _))
   replace HB := Lib.hid (HB.out.sk2 HSK.out HG2.out)
   clear hbx1 hrow1 hnew1 key3
   have HGE2 : Hid (Geq i9 (after (nameM r) (after (hereM r) σ8))) := (HGE.out.after (up_here r)).after (ups_name r).up
   replace HGE := HGE2
   clear HGE2
   generalize after (nameM r) (after (hereM r) σ8) = σ18 at HT HD HGE
   have hsz : (((w22.setCell ⟨g3, 1, none⟩ (.string n2)).alloc (.cells #[.int .i64 22, .string n2, .int .i64 a2, .slice none 0 0] 40)).setCell ⟨g2, 3, none⟩ (.slice (some ⟨w22.heap.size, 0, none⟩) 1 1)).heap.size = w22.heap.size + 1 := by simp [World.setCell]
   obtain ⟨b0, b1, b2, b3⟩ := HB.out.box.cells
   obtain ⟨u0, u1, u2, u3⟩ := HV.out.box.cells
   have hbx := boxB (((w22.setCell ⟨g3, 1, none⟩ (.string n2)).alloc (.cells #[.int .i64 22, .string n2, .int .i64 a2, .slice none 0 0] 40)).setCell ⟨g2, 3, none⟩ (.slice (some ⟨w22.heap.size, 0, none⟩) 1 1)) (.cells #[.int .i64 11, .string nm, .int .i64 a1, .slice (some ⟨w22.heap.size, 0, none⟩) 1 1] 40)
   have hnew := heap_alloc_new (((w22.setCell ⟨g3, 1, none⟩ (.string n2)).alloc (.cells #[.int .i64 22, .string n2, .int .i64 a2, .slice none 0 0] 40)).setCell ⟨g2, 3, none⟩ (.slice (some ⟨w22.heap.size, 0, none⟩) 1 1)) (.cells #[.int .i64 11, .string nm, .int .i64 a1, .slice (some ⟨w22.heap.size, 0, none⟩) 1 1] 40 (0, 0))
   rw [hsz] at hnew
   have hrow : IsTs (fun b => g2 < b) ((((w22.setCell ⟨g3, 1, none⟩ (.string n2)).alloc (.cells #[.int .i64 22, .string n2, .int .i64 a2, .slice none 0 0] 40)).setCell ⟨g2, 3, none⟩ (.slice (some ⟨w22.heap.size, 0, none⟩) 1 1)).alloc (.cells #[.int .i64 11, .string nm, .int .i64 a1, .slice (some ⟨w22.heap.size, 0, none⟩) 1 1] 40)) (.slice (some ⟨w22.heap.size + 1, 0, none⟩) 1 1) [.mk 11 nm a1 [.mk 22 n2 a2 []]] := IsTs.rowAt _ [⟨11, nm, a1, some ⟨w22.heap.size, 0, none⟩, 1, 1⟩] [.mk 11 nm a1 [.mk 22 n2 a2 []]] hnew rfl rfl rfl (by decide) (by decide) (by have := lt_heap HV.out.box.z; rw [hsz] at this; omega) (fun i a b => match i, a, b with | 0, _, _ => HV.out.tree.later hbx | i + 1, c, _ => absurd c (by simp))
   have hnn := HB.out.nodes.but0 (But.of_below hbx)
   have HT2 := Lib.hid (HT.out.on (HT.out.rr.below hbx) (Mv.of_below hbx))
   have HB2 := Lib.hid (HB.out.on (Mv.of_below hbx))
   have HSZ := Lib.hid hsz
   try unfold ndC
   go_wp2_with (at_builtin; go_must (refine wpList_pushRr (A := fun b => g2 < b) (B := g + 1) (o := ⟨some 34, _, _, _, _, _⟩) rfl (.tmp 31) (.tmp 33) rfl rfl rfl hnn (by have := lt_heap HB2.out.box.z; omega) (by omega) hrow (fun b hb => ⟨by have := HGG.out; omega, fun e => by have := (HOW.out b e).1; omega⟩) ?_; intro v2 w15 hn2 hg2; have hpu := HB2.out.push HT2.out hn2 hg2; obtain ⟨p7, c7, rfl, -, -⟩ := hn2.slice; obtain ⟨n7, e7⟩ : ∃ n7, (t.kids ++ [(.mk 11 nm a1 [.mk 22 n2 a2 []] : Tree)]).length = n7 := ⟨_, rfl⟩; rw [e7] at hn2 ⊢; clear e7; obtain ⟨bb0, bb1, bb2, bb3⟩ := hpu.1.cells; have ff := hpu.1.warm'))
   replace HT := Lib.hid (hpu.2.poke g 3 (.slice p7 n7 c7) HB2.out.box.new)
   replace HB := Lib.hid (HB2.out.store hpu.1 hn2)
   have HK7 : Hid (Tree.mk t.kind t.text t.at_ (t.kids ++ [.mk 11 nm a1 [.mk 22 n2 a2 []]]) = .mk 10 ⟨#[]⟩ a (t.kids ++ [.mk 11 nm a1 [.mk 22 n2 a2 []]])) := by show _ = _; rw [HKT.out]; rfl
   clear hn2 hg2 hpu bb0 bb1 bb2 bb3 ff hbx hnew hrow hnn HT2 HB2 HSZ hsz b0 b1 b2 b3 u0 u1 u2 u3
   generalize w15.setCell ⟨g, 3, none⟩ (.slice p7 n7 c7) = w16 at *
   obtain ⟨q8, hq8⟩ : ∃ q8 : Raw, q8 = ⟨q.kind, q.text, q.at_, p7, n7, c7⟩ := ⟨_, rfl⟩
   obtain ⟨t8, ht8⟩ : ∃ t8, t8 = Tree.mk t.kind t.text t.at_ (t.kids ++ [.mk 11 nm a1 [.mk 22 n2 a2 []]]) := ⟨_, rfl⟩
   have hk8 : t8.kids = t.kids ++ [.mk 11 nm a1 [.mk 22 n2 a2 []]] := by rw [ht8]; rfl
   rw [← hq8, ← ht8] at HB
   rw [← ht8, ← hk8] at HK7
   rw [← hk8] at HD
   have hf8 : t8.kids.length + f' = r.L.length + 1 := by rw [hk8, List.length_append]; simp only [List.length_cons, List.length_nil]; omega
   clear hq8 ht8 hk8 HKT
   replace HD : Hid (Due P σ (parE r a f' t8.kids) σ18) := HD
   clear HV HSK HG2 HOW HGG HW HG3 z0 z1 z2 z3 fy y0 y1 y2 y3 v0 v1 v2' v3 fz hs1
   refine (take_r r _ s ⟨#[44]⟩ _ HT.out.rr HE.out HK.out (by decide) (known_of (by decide))).mono ?_
   rintro e w17 ⟨b, rfl, hr, hm, hg, hz⟩
   have HTK := Lib.hid hg
   replace HD := Lib.hid (HD.out.step hg)
   replace HT := Lib.hid (HT.out.on hr hm)
   replace HB := Lib.hid (HB.out.on hm)
   clear hr hm hg
   cases b
   ·go_wp2_with fail
    replace HD := Lib.hid (HD.out.to (Q' := bindM (needM r ⟨#[62]⟩) fun _ => ndM 10 ⟨#[]⟩ a t8.kids) rfl)
    refine (need_r r _ s ⟨#[62]⟩ _ HT.out.rr HE.out HK.out (by decide) (known_of (by decide))).mono ?_
    rintro e w20 ⟨rfl, hr, hm⟩
    replace HD := Lib.hid (HD.out.step (Got.unit _ _))
    replace HT := Lib.hid (HT.out.on hr hm)
    replace HB := Lib.hid (HB.out.on hm)
    clear hr hm
    replace HD := Lib.hid (HD.out.to (Q' := pureM t8) (by have h := HK7.out; exact congrArg pureM h.symm))
    obtain ⟨b0, b1, b2, b3⟩ := HB.out.box.cells
    have HW := Lib.hid (HT.out.ret (q := q8) (HB.out.tree))
    obtain ⟨d0, d1, d2, d3, f0⟩ := HT.out.res.cells
    try unfold ndC
    go_wp2_with fail
    obtain ⟨hcell, hist, hrr, hmv⟩ := HW.out
    exact bodyPost_ret (results_cellT rfl _ _ _ ⟨w.heap.size, 0, none⟩ _ rfl (load_node _ _ q8 hcell)) rfl (HD.out.postP hist hrr hmv)
   ·obtain ⟨i10, hi10, ha10⟩ := took_true HTK.out hz
    subst hi10
    rw [ha10] at HT HD
    have hij := HGE.out i10 rfl
    clear HTK hz ha10 HGE
    have hrm := roomOf_eq HT.out.rr
    have hlt2 := HT.out.rr.lt
    go_wp2_with fail
    go_roundw
    case rel => exact ⟨f', q8, t8, _, HT.out, HB.out, HD.out, HK7.out, hf8, by omega⟩
    case measure => rw [hrm, HRM.out]; simp only [room]; omega
end Go.Proofs.YtgcaeimlmkkeoaaGreat
