/-
  LAWS: regions with older trees in them, a variable that holds a node; PLAIN: marks and signs between operands, as the reference reads them.
-/
import Derived.Test.YtgcaeimlmkkeoaaGreatZR3
set_option linter.unusedSimpArgs false
set_option linter.unusedVariables false
namespace Go.Proofs.YtgcaeimlmkkeoaaGreat
open Go Go.RowKit
section
variable {r : Rdr} {ob : Option Nat} {ic ia k : Nat} {wr : World} {P : Program} {Pn : Ending → World → Prop} {σ : Except Nat Nat} {s : Bool} {p : PM Tree} {A : Nat → Prop}
/-- a node, of blocks of A -/
def tyNodeA (A : Nat → Prop) (G : Tree → Prop) : TyV := ⟨Raw × Tree, ⟨(default, default)⟩, fun x => .agg (ndC x.1), fun x W => IsT A W x.1 x.2 ∧ G x.2⟩
/-- nodes in a row -/
def tyRowA (A : Nat → Prop) (n : Nat) (G : List Tree → Prop) : TyV := ⟨Nat × List Tree, ⟨(0, [])⟩, fun x => .slice (some ⟨x.1, 0, none⟩) n n, fun x W => IsTs A W (.slice (some ⟨x.1, 0, none⟩) n n) x.2 ∧ G x.2⟩
theorem tyNodeA_f (G : Tree → Prop) (q : Raw) (t : Tree) : (tyNodeA A G).f (q, t) = .agg (ndC q) := rfl
theorem tyRowA_f (n : Nat) (G : List Tree → Prop) (g : Nat) (l : List Tree) : (tyRowA A n G).f (g, l) = .slice (some ⟨g, 0, none⟩) n n := rfl
theorem tyNodeA_good {G : Tree → Prop} (hA : ∀ b, A b → b ≠ r.b ∧ ob ≠ some b) : GoodS (Sx r ob ic ia) k (tyNodeA A G) := by
 intro j x w w' hj hs ⟨h1, h2⟩
 exact ⟨Sx.tree hs h1 hA, h2⟩
theorem tyRowA_good {n : Nat} {G : List Tree → Prop} (hA : ∀ b, A b → b ≠ r.b ∧ ob ≠ some b) : GoodS (Sx r ob ic ia) k (tyRowA A n G) := by
 intro j x w w' hj hs ⟨h1, h2⟩
 exact ⟨Sx.list hs h1 hA, h2⟩
/-- trees that were there stay all along -/
theorem InvX.tree {w0 W : World} {q : Raw} {t : Tree} (hI : InvX r w0 ob wr W) (h : IsT A wr q t) (hA : ∀ b, A b → b ≠ r.b ∧ ob ≠ some b) : IsT A W q t :=
 h.same (M := fun a => a.block = r.b ∨ ob = some a.block) (fun a v hc hm => by
  have hb := World.block_lt_of_cell? wr _ hc
  rw [World.cell?_of_block (hI.block a.block hb (fun e => hm (.inl e)) (fun e => hm (.inr e)))]
  exact hc) (fun a e q => by
   rcases e with e | e
   ·exact (hA _ q).1 e
   ·exact (hA _ q).2 e)
/-- a node is made -/
theorem sx_nodeA {w0 W : World} {G : Tree → Prop} {kd : Int} {tx : ByteArray} {a : Int} {pp : Option Addr} {n cap : Nat} {l : List Tree} {g : FuncId} {args : Array Value} (hI : InvX r w0 ob wr W) (h1 : k ≠ ic) (h2 : k ≠ ia)
  (hl : IsTs A W (.slice pp n cap) l) (hG : G (.mk kd tx a l)) (hc : Calls P g args W fun e w' => e = .returned (.agg (ndC ⟨kd, tx, a, pp, n, cap⟩)) ∧ Below W.heap.size W w') :
  oneUpon P (Sx r ob ic ia k) Pn (tyNodeA A G) W (.ok (.enter g args) W) := by
 refine hc.mono ?_
 rintro e w' ⟨rfl, hb⟩
 refine .inl ⟨(⟨kd, tx, a, pp, n, cap⟩, .mk kd tx a l), rfl, ?_, IsT.node kd tx a (hl.later hb), hG⟩
 unfold Sx
 rw [if_neg h1, if_neg h2]
 exact But.of_below hb
/-- nodes are laid in a row -/
theorem sx_rowA {w0 W : World} {n : Nat} {G : List Tree → Prop} {cs : Array Value} {ty : TypeId} (qs : List Raw) (l : List Tree) (hI : InvX r w0 ob wr W) (hA : ∀ b, wr.heap.size ≤ b → A b) (h1 : k ≠ ic) (h2 : k ≠ ia) (hcs : cs.toList = rawEnc.all qs) (hn : n = qs.length) (hl : qs.length = l.length) (h0 : 0 < n) (hm : n ≤ maxLen)
  (hT : ∀ i (h1 : i < qs.length) (h2 : i < l.length), IsT A W qs[i] l[i]) (hG : G l) :
  oneUpon P (Sx r ob ic ia k) Pn (tyRowA A n G) W (.ok (.value (.slice (some ⟨W.heap.size, 0, none⟩) n n)) (W.alloc (.cells cs ty))) := by
 refine ⟨?_, (W.heap.size, l), rfl, IsTs.rowAt cs qs l (heap_alloc_new W _) hcs hn hl h0 hm (hA _ hI.size) (fun i a b => (hT i a b).later (boxB W _)), hG⟩
 unfold Sx
 rw [if_neg h1, if_neg h2]
 exact But.alloc W _
end
theorem sx_pushA {r : Rdr} {ic ia : Nat} {w0 wr W : World} {Pn : Ending → World → Prop} {B : Nat} {v : Value} {ts l : List Tree} {g' : Nat} {G : List Tree → Prop} {ops : Array Oper} {o : Oper} {a : Act}
  (hgd : o.guard = none) (s x : Operand) (ho : o.op = .call { callee := .builtin .append, args := #[s, x], argTypes := #[36, 36] })
  (hs : a.eval s = v) (hx : a.eval x = .slice (some ⟨g', 0, none⟩) 1 1) (hI : InvX r w0 v.ownBlock wr W) (hic : ia ≠ ic)
  (hN : Nodes B W v ts) (hB : B ≤ wr.heap.size) (hob : ∀ g, v.ownBlock = some g → g < wr.heap.size) {A : Nat → Prop} (hA : ∀ b, A b → B ≤ b ∧ v.ownBlock ≠ some b) (hl : IsTs A W (.slice (some ⟨g', 0, none⟩) 1 1) l) (hlen : ts.length ≤ 100000) (hG : G (ts ++ l)) :
  oneAt Tryz.prog ops (Sx r v.ownBlock ic ia ia) Pn (tyList B v.ownBlock wr G) o a W := by
 obtain ⟨i0, hi, hz0, hz1, hz2⟩ := info_parts infoTree
 obtain ⟨R, hown, hRl, hT⟩ := hN
 obtain ⟨p', n', cap', Rl, e, hsl, _, _, hll, hlT⟩ := hl
 cases e
 obtain ⟨hn1, _, _, hlies⟩ := hsl.lies
 obtain ⟨b, off, e, hcells⟩ := hlies (by omega)
 injection e with e
 injection e with e1 e2 _
 subst e1
 subst e2
 have hsz := hI.size
 obtain ⟨q, rfl⟩ : ∃ q, Rl = [q] := by
  cases Rl with
  | nil => simp at hn1
  | cons q R => cases R with
   | nil => exact ⟨q, rfl⟩
   | cons _ _ => simp at hn1
 have cell : ∀ j u, (rawEnc.cells q)[j]? = some u → W.cell? ((⟨g', 0, none⟩ : Addr).add j) = some u := by
  intro j u hu
  rw [add_lit]
  refine hcells j u ?_
  rw [Enc.all_cons, Enc.all_nil, List.append_nil]
  exact hu
 obtain ⟨v', w', hr, g1, g2, _, g4⟩ := run_append_own_at (P := Tryz.prog) W B 36 o.type 40 i0 _ 4 56 Tryz.underlying36 hi hz0 hz1 hz2 rfl (by decide) v R.length (rawEnc.all R) hown ⟨g', 0, none⟩ 1 1 (rawEnc.cells q) rfl cell (rawEnc.one q) (by unfold maxLen; omega) (by omega) (by omega)
 have hown' : OwnL rawEnc 40 w' B v' (R ++ [q]) := by
  unfold OwnL
  rw [List.length_append, rawEnc.all_append, rawEnc.all_cons, rawEnc.all_nil, List.append_nil]
  exact g1
 have hobt := hown.lt
 have keep : ∀ {A : Nat → Prop} {qq : Raw} {tt : Tree}, IsT A W qq tt → (∀ b, A b → B ≤ b ∧ v.ownBlock ≠ some b) → IsT (fun b => B ≤ b ∧ v'.ownBlock ≠ some b) w' qq tt := by
  intro A qq tt h hA
  refine (h.old.same (same_grown g2) (fun a e q => (hA _ q.1).2 e)).mono (fun b hb => ⟨(hA b hb.1).1, fun e => ?_⟩)
  rcases g4 with g4 | g4
  ·rw [g4] at e; exact (hA b hb.1).2 e
  ·rw [g4] at e
   have : W.heap.size = b := by simpa using e
   have := hb.2
   omega
 have hnodes : Nodes B w' v' (ts ++ l) := by
  have hl1 : l.length = 1 := by rw [← hll]; rfl
  refine ⟨R ++ [q], hown', by simp [hRl, hl1], fun j h1 h2 => ?_⟩
  by_cases hj : j < R.length
  ·rw [List.getElem_append_left hj, List.getElem_append_left (by omega)]
   exact keep (hT j hj (by omega)) (fun b hb => hb)
  ·have hjl : j - ts.length = 0 := by simp at h1; omega
   have e1 : (R ++ [q])[j] = q := by rw [List.getElem_append_right (by omega)]; simp
   have e2 : (ts ++ l)[j] = l[0] := by rw [List.getElem_append_right (by omega)]; simp only [hjl]
   rw [e1, e2]
   have := hlT 0 (by simp) (by omega)
   exact keep this hA
 have hw : Region.wanted o (yielded ops a.tmps) = true := by unfold Region.wanted; rw [hgd]
 unfold oneAt
 rw [if_pos hw]
 have hrun : (execOp a.eval o).run Tryz.prog W = .ok (.value v') w' := by
  unfold execOp
  simp only [ho, resolve, invoke, builtin, Sem.run_bind, Sem.run_pure, Result.andThen_ok, List.map_toArray, List.map_cons, List.map_nil, hs, hx, hr]
 rw [hrun]
 refine ⟨?_, (v', ts ++ l), rfl, hnodes, hG, ?_⟩
 ·unfold Sx
  rw [if_neg hic, if_pos rfl]
  exact g2
 ·rcases g4 with g4 | g4
  ·exact .inl g4
  ·exact .inr ⟨_, g4, hsz⟩
/-- a variable that holds a node -/
structure Var (r : Rdr) (w0 : World) (g : Nat) (q : Raw) (t : Tree) (W : World) : Prop where
 box : BoxAt r w0 g q W
 tree : IsT (since w0 g) W q t
theorem Var.on {r : Rdr} {w0 : World} {g : Nat} {q : Raw} {t : Tree} {W W' : World} (h : Var r w0 g q t W) (hm : Mv r W W') : Var r w0 g q t W' :=
 ⟨h.box.mvB hm h.box.old, h.tree.mvG hm (fun b hb => by have := hb.1; have := h.box.old; omega)⟩
theorem Var.first {r : Rdr} {w0 : World} {σ : Except Nat Nat} {s : Bool} {W : World} {q : Raw} {t : Tree} (h : St r w0 σ s W) (ht : IsT (fun b => w0.heap.size < b) W q t) :
  Var r w0 W.heap.size q t (W.alloc (.cells (ndC q) 40)) :=
 ⟨⟨heap_alloc_new W _, lt_heap h.res.z, h.rb⟩, (ht.old.later (boxB W _)).mono (fun b hb => ⟨hb.1, by omega⟩)⟩
theorem Var.val {r : Rdr} {w0 : World} {g : Nat} {q : Raw} {t : Tree} {W : World} (h : Var r w0 g q t W) : IsT (fun b => w0.heap.size < b) W q t := h.tree.mono (fun b hb => hb.1)
theorem Var.inv {r : Rdr} {w0 : World} {g : Nat} {q : Raw} {t : Tree} {wr W : World} (h : Var r w0 g q t wr) (hI : InvX r w0 none wr W) : Var r w0 g q t W :=
 ⟨hI.box h.box (fun e => by cases e), hI.tree h.tree (fun b hb => ⟨by have := hb.1; have := h.box.old; omega, fun e => by cases e⟩)⟩
/-- another node, which was made since -/
theorem Var.store {r : Rdr} {w0 : World} {g : Nat} {q q' : Raw} {t t' : Tree} {W : World} {σ : Except Nat Nat} {s : Bool} (h : Var r w0 g q t W) (hs : St r w0 σ s W) (ht : IsT (since w0 g) W q' t') :
  St r w0 σ s ((((W.setCell ⟨g, 0, none⟩ (.int .i64 q'.kind)).setCell ⟨g, 1, none⟩ (.string q'.text)).setCell ⟨g, 2, none⟩ (.int .i64 q'.at_)).setCell ⟨g, 3, none⟩ (.slice q'.p q'.n q'.cap)) ∧
  Var r w0 g q' t' ((((W.setCell ⟨g, 0, none⟩ (.int .i64 q'.kind)).setCell ⟨g, 1, none⟩ (.string q'.text)).setCell ⟨g, 2, none⟩ (.int .i64 q'.at_)).setCell ⟨g, 3, none⟩ (.slice q'.p q'.n q'.cap)) := by
 have hg := h.box.new
 have key : ∀ (W : World) (k : Nat) (v : Value), But (fun a => a.block = g) W (W.setCell ⟨g, k, none⟩ v) := fun W k v => But.setCell W _ v rfl
 have bb := (((key W 0 (.int .i64 q'.kind)).trans (key _ 1 (.string q'.text))).trans (key _ 2 (.int .i64 q'.at_))).trans (key _ 3 (.slice q'.p q'.n q'.cap))
 refine ⟨(((hs.poke g 0 _ hg).poke g 1 _ hg).poke g 2 _ hg).poke g 3 _ hg, ⟨heap_setCell_same _ _ _ _ _ _ (heap_setCell_same _ _ _ _ _ _ (heap_setCell_same _ _ _ _ _ _ (heap_setCell_same _ _ _ _ _ _ h.box.z))), hg, h.box.old⟩, ht.but bb (fun a e q => q.2 e)⟩
theorem IsT.pair {A : Nat → Prop} {w : World} {g : Nat} {l : List Tree} {t1 t2 : Tree} (kd : Int) (sg : ByteArray) (a : Int) (h : IsTs A w (.slice (some ⟨g, 0, none⟩) 2 2) l) (e : l = [t1, t2]) : IsT A w ⟨kd, sg, a, some ⟨g, 0, none⟩, 2, 2⟩ (.mk kd sg a [t1, t2]) := by
 rw [← e]
 exact IsT.node kd sg a h
-- marks between operands
def chainN (r : Rdr) (part : PM Tree) (sg : ByteArray) (C : Nat → Tree → PM Tree) : Nat → Tree → PM Tree
 | 0, _ => failM
 | f + 1, t => bindM part fun u => C f (.mk 28 sg t.at_ [t, u])
def chainT (r : Rdr) (part : PM Tree) (sg : ByteArray) : Nat → Tree → PM Tree
 | 0, t => bindM (tookM r sg) fun b => match b with
  | false => pureM t
  | true => failM
 | f + 1, t => bindM (tookM r sg) fun b => match b with
  | false => pureM t
  | true => bindM part fun u => chainT r part sg f (.mk 28 sg t.at_ [t, u])
theorem chainT_eq (r : Rdr) (part : PM Tree) (sg : ByteArray) (f : Nat) (t : Tree) : chainT r part sg f t = bindM (tookM r sg) fun b => match b with
  | false => pureM t
  | true => chainN r part sg (chainT r part sg) f t := by cases f <;> rfl
def takesR (r : Rdr) (part : PM Tree) (sg : ByteArray) : PM Tree := bindM part fun t => chainT r part sg (r.L.length + 1) t
-- signs between operands
def chainSK (r : Rdr) (part : PM Tree) (V : List ByteArray) : Nat → Tree → ByteArray → PM Tree
 | 0, t, sg => match sg.toList.isEmpty with
  | true => pureM t
  | false => failM
 | f + 1, t, sg => match sg.toList.isEmpty with
  | true => pureM t
  | false => bindM part fun u => bindM (signM r V) fun sg' => chainSK r part V f (.mk 28 sg t.at_ [t, u]) sg'
def signsR (r : Rdr) (part : PM Tree) (V : List ByteArray) : PM Tree := bindM part fun t => bindM (signM r V) fun sg => chainSK r part V (r.L.length + 1) t sg
def onceR (r : Rdr) (part : PM Tree) (V : List ByteArray) : PM Tree := bindM part fun t => bindM (signM r V) fun sg => match sg.toList.isEmpty with
 | true => pureM t
 | false => bindM part fun u => pureM (.mk 28 sg t.at_ [t, u])
end Go.Proofs.YtgcaeimlmkkeoaaGreat
namespace Go.Proofs.YtgcaeimlmkkeoaaGreat
open Go Go.RowKit
set_option maxRecDepth 100000 in
set_option maxHeartbeats 4000000 in
theorem rAnd_any (r : Rdr) (σ : Except Nat Nat) (s : Bool) (part : PM Tree) (lv : Int) (hup : Up part) (w : World) (h : RrAt r σ s w) (hE : EndAt r) (hK : Known r.L) (hP : ∀ σ1 w1, Err σ σ1 → RrAt r σ1 s w1 → Calls Tryz.prog 91 #[.pointer (some ⟨r.b, 0, none⟩), .int .i64 lv] w1 (RrPost r part σ1 s w1)) :
  Calls Tryz.prog 68 #[.pointer (some ⟨r.b, 0, none⟩), .int .i64 lv] w (RrPost r (takesR r part ⟨#[38, 38]⟩) σ s w) := by
 have HT := Lib.hid (St.start h)
 have HE := Lib.hid hE
 have HK := Lib.hid hK
 have HPT := Lib.hid hP
 obtain ⟨P, hP⟩ : ∃ P, (takesR r part ⟨#[38, 38]⟩) = P := ⟨_, rfl⟩
 have hd : Due P σ (takesR r part ⟨#[38, 38]⟩) σ := by rw [hP]; exact Due.refl _ _
 rw [hP]
 clear hP
 unfold takesR at hd
 have HD := Lib.hid hd
 clear h hE hK hd hP
 go_enter Tryz.func68, Tryz.ntmps68
 go_wp2_with fail
 generalize w.alloc (.cells #[.int .i64 0, .string ⟨#[]⟩, .int .i64 0, .slice none 0 0] 40) = w1 at *
 refine (HPT.out _ _ HD.out.er HT.out.rr).mono ?_
 rintro e w3 ⟨q1, t1, rfl, ht, hr, hm, hg⟩
 have HI := Lib.hid (ht.mono (fun b hb => Nat.lt_of_lt_of_le HT.out.up hb))
 replace HD := Lib.hid (HD.out.step hg)
 replace HT := Lib.hid (HT.out.on hr hm)
 clear hr hm hg ht
 unfold ndC
 go_wp2_with fail
 have HB := Lib.hid (Var.first HT.out HI.out)
 have hbx := boxB w3 (.cells (ndC q1) 40)
 replace HT := Lib.hid (HT.out.on (HT.out.rr.below hbx) (Mv.of_below hbx))
 clear hbx HI
 unfold ndC at HB HT
 obtain ⟨g, hg⟩ : ∃ g, w3.heap.size = g := ⟨_, rfl⟩
 rw [hg] at HB ⊢
 generalize w3.alloc (.cells #[.int .i64 q1.kind, .string q1.text, .int .i64 q1.at_, .slice q1.p q1.n q1.cap] 40) = w4 at *
 clear hg
 generalize after part _ = σ4 at HT HD
 go_loopw [10] (fun x wr => ∃ (f : Nat) (q : Raw) (t : Tree) (σ9 : Except Nat Nat), Hid (St r w σ9 s wr) ∧ Hid (Var r w g q t wr) ∧ Hid (Due P σ (chainT r part ⟨#[38, 38]⟩ f t) σ9) ∧ ∀ i, σ9 = .ok i → r.L.length ≤ f + i) (fun _ wr => roomOf r wr)
 case atStart => exact ⟨r.L.length + 1, q1, t1, σ4, HT.out, HB.out, HD.out, fun i e => by omega⟩
 case round =>
  clear HT HB HD
  obtain ⟨f, q, t, σ9, HT, HB, HD, HI0⟩ := hrel
  have HRM := Lib.hid (roomOf_eq HT.out.rr)
  replace HD := Lib.hid (HD.out.to (chainT_eq r part ⟨#[38, 38]⟩ f t))
  go_wp2_with fail
  have HT0 := HT
  refine (take_r r _ s ⟨#[38, 38]⟩ _ HT.out.rr HE.out HK.out (by decide) (known_of (by decide))).mono ?_
  rintro e w10 ⟨b, rfl, hr, hm, hg, hz⟩
  have HTK := Lib.hid hg
  replace HD := Lib.hid (HD.out.step hg)
  replace HT := Lib.hid (HT.out.on hr hm)
  replace HB := Lib.hid (HB.out.on hm)
  clear hr hm hg
  cases b
  ·obtain ⟨b0, b1, b2, b3⟩ := HB.out.box.cells
   have HW := Lib.hid (HT.out.ret (q := q) (HB.out.val))
   obtain ⟨d0, d1, d2, d3, f0⟩ := HT.out.res.cells
   try unfold ndC
   go_wp2_with fail
   obtain ⟨hcell, hist, hrr, hmv⟩ := HW.out
   exact bodyPost_ret (results_cellT rfl _ _ _ ⟨w.heap.size, 0, none⟩ _ rfl (load_node _ _ q hcell)) rfl ((HD.out.postP hist hrr hmv))
  ·obtain ⟨i9, hi9, ha9⟩ := took_true HTK.out hz
   have hfi := HI0 i9 hi9
   have hlt := HT0.out.rr
   rw [hi9] at hlt
   have hlt := hlt.lt
   obtain ⟨f', rfl⟩ : ∃ f', f = f' + 1 := ⟨f - 1, by omega⟩
   rw [ha9] at HT HD
   have HRM2 : Hid (roomOf r wr = r.L.length + 1 - i9) := by have := HRM.out; rw [hi9] at this; exact this
   clear HRM HT0 HTK ha9 hz hi9 HI0
   go_wp2_with fail
   have HO : Hid (∀ b, (none : Option Nat) = some b → r.b < b ∧ b < w10.heap.size) := fun b e => by cases e
   have HRW : Hid (r.b < w10.heap.size) := HT.out.rr.rb
   apply wp_region_many 7 (Sx r none 5 1000) (InvX r w none w10) (F0x r (.ok (i9 + 1)) s (r.b + 1) (.slice none 0 0) [] 5 1000)
   case hIS => exact fun i x y hs hi => hi.step i hs (fun b e => by cases e)
   case hk0 => exact F0x.keeps (v := .slice none 0 0) (by omega) (fun b e => by cases e)
   case hm => kernel_rfl
   case hB => kernel_rfl
   case h0 => exact InvX.start HT.out.mv
   case h1 => exact F0x.start HT.out.rr (Nodes.none _ _)
   simp only [List.take_succ_cons, List.take_zero, List.drop_succ_cons, List.drop_zero]
   apply wpMany_cons (t := tvIs (.pointer (some ⟨g, 2, none⟩))) (tvIs_goodS _ _)
   case h1 =>
    intro W hI hl
    unfold oneAt
    go_simp
    exact sx_is (by decide) (by decide)
   intro _
   rw [tvIs_f]
   go_simp
   apply wpMany_cons (t := tvIs (.int .i64 q.at_)) (tvIs_goodS _ _)
   case h1 =>
    intro W hI hl
    obtain ⟨b0, b1, b2, b3⟩ := (hI.box HB.out.box (fun e => by cases e)).cells
    unfold oneAt
    go_simp
    exact sx_is (by decide) (by decide)
   intro _
   rw [tvIs_f]
   go_simp
   apply wpMany_cons (t := tvIs (.agg #[.int .i64 q.kind, .string q.text, .int .i64 q.at_, .slice q.p q.n q.cap])) (tvIs_goodS _ _)
   case h1 =>
    intro W hI hl
    obtain ⟨b0, b1, b2, b3⟩ := (hI.box HB.out.box (fun e => by cases e)).cells
    unfold oneAt
    go_simp
    exact sx_is (by decide) (by decide)
   intro _
   rw [tvIs_f]
   go_simp
   apply wpMany_cons (t := tvIs (.pointer (some ⟨r.b, 0, none⟩))) (tvIs_goodS _ _)
   case h1 =>
    intro W hI hl
    unfold oneAt
    go_simp
    exact sx_is (by decide) (by decide)
   intro _
   rw [tvIs_f]
   go_simp
   apply wpMany_cons (t := tvIs (.int .i64 lv)) (tvIs_goodS _ _)
   case h1 =>
    intro W hI hl
    unfold oneAt
    go_simp
    exact sx_is (by decide) (by decide)
   intro _
   rw [tvIs_f]
   go_simp
   apply wpMany_cons (t := tyCall r w10 (part) (.ok (i9 + 1)) s) (tyCall_good HRW.out (fun b e => by have := HO.out b e; omega))
   case h1 =>
    intro W hI hl
    have hr : RrAt r (.ok (i9 + 1)) s W := hl.1.1 rfl
    unfold oneAt
    go_simp
    exact sx_call hI (HPT.out _ W HD.out.er hr)
   rintro ⟨q5, t5⟩
   rw [tyCall_f]
   unfold ndC
   go_simp
   apply wpMany_cons (t := tyRowA (since w g) 2 (fun l => ∃ u, l = [t, u] ∧ Got (part) (.ok (i9 + 1)) u)) (tyRowA_good (fun b hb => ⟨by have := hb.1; have := HB.out.box.old; omega, fun e => by cases e⟩))
   case h1 =>
    intro W hI hl
    have h5 : IsT (fun b => w10.heap.size ≤ b) W q5 t5 ∧ RrAt r (after (part) (.ok (i9 + 1))) s W ∧ Got (part) (.ok (i9 + 1)) t5 := hl.2 ⟨5, .data⟩ (by simp) rfl
    have hvt := (HB.out.inv hI).tree
    unfold oneAt
    go_simp
    exact sx_rowA [q, q5] [t, t5] hI (fun b hb => ⟨by have := lt_heap HB.out.box.z; have := HB.out.box.new; omega, by have := lt_heap HB.out.box.z; omega⟩) (by decide) (by decide) rfl rfl rfl (by decide) (by decide) (fun i a b => match i, a, b with | 0, _, _ => hvt | 1, _, _ => h5.1.mono (fun b hb => ⟨by have := lt_heap HB.out.box.z; have := HB.out.box.new; omega, by have := lt_heap HB.out.box.z; omega⟩) | i + 2, c, _ => absurd c (by simp)) (⟨t5, rfl, h5.2.2⟩)
   rintro ⟨g6, l6⟩
   rw [tyRowA_f]
   go_simp
   apply wpMany_nil (Ts := [])
   intro w21 hI hFa
   have h5 : IsT (fun b => w10.heap.size ≤ b) w21 q5 t5 ∧ RrAt r (after (part) (.ok (i9 + 1))) s w21 ∧ Got (part) (.ok (i9 + 1)) t5 := hFa 5
   have h6 : IsTs (since w g) w21 (.slice (some ⟨g6, 0, none⟩) 2 2) l6 ∧ ∃ u, l6 = [t, u] ∧ Got (part) (.ok (i9 + 1)) u := hFa 6
   obtain ⟨hl6, u6, hl6e, hg6⟩ := h6
   have hpl := HB.out.tree.parts.2.2.1
   replace HD := Lib.hid (HD.out.step hg6)
   replace HT := Lib.hid (hI.st HT.out h5.2.1 (fun b e => by cases e))
   replace HB := Lib.hid (HB.out.inv hI)
   have HN := Lib.hid (IsT.pair 28 ⟨#[38, 38]⟩ q.at_ hl6 hl6e)
   have HPL := Lib.hid hpl
   have HSZ := Lib.hid hI.size
   clear hI hFa h5 hl6 hl6e hg6 hpl HO HRW
   go_wp2_with fail
   refine (leaf_r 28 ⟨#[38, 38]⟩ q.at_ (some ⟨g6, 0, none⟩) 2 2 _ HT.out.rr).mono ?_
   rintro e w22 ⟨rfl, hr, hm⟩
   replace HT := Lib.hid (HT.out.on hr hm)
   replace HB := Lib.hid (HB.out.on hm)
   replace HN := Lib.hid (HN.out.mvG hm (fun b hb => by have := hb.1; have := HB.out.box.old; omega))
   clear hr hm
   have hst := HB.out.store HT.out HN.out
   obtain ⟨b0, b1, b2, b3⟩ := HB.out.box.cells
   have fz := HB.out.box.warm'
   replace HT := Lib.hid hst.1
   replace HB := Lib.hid hst.2
   rw [show Tree.mk 28 ⟨#[38, 38]⟩ q.at_ [t, u6] = .mk 28 ⟨#[38, 38]⟩ t.at_ [t, u6] from by rw [HPL.out]] at HB
   clear hst HN
   unfold ndC
   go_wp2_with fail
   clear b0 b1 b2 b3 fz
   generalize (((w22.setCell ⟨g, 0, none⟩ (.int .i64 28)).setCell ⟨g, 1, none⟩ (.string ⟨#[38, 38]⟩)).setCell ⟨g, 2, none⟩ (.int .i64 q.at_)).setCell ⟨g, 3, none⟩ (.slice (some ⟨g6, 0, none⟩) 2 2) = w23 at *
   have hup9 : ∀ j, after part (.ok (i9 + 1)) = .ok j → i9 + 1 ≤ j := fun j e => hup.after e
   generalize after part (.ok (i9 + 1)) = σ7 at HT HD hup9
   have hrm := roomOf_eq HT.out.rr
   go_roundw
   case rel => exact ⟨f', _, _, σ7, HT.out, HB.out, HD.out, fun i e => by have := hup9 i e; omega⟩
   case measure =>
    rw [hrm, HRM2.out]
    cases σ7 with
    | ok j => have := hup9 j rfl; have := HT.out.rr.lt; simp only [room]; omega
    | error k => simp only [room]; omega
set_option maxRecDepth 100000 in
set_option maxHeartbeats 4000000 in
theorem rExpr_any (r : Rdr) (σ : Except Nat Nat) (s : Bool) (part : PM Tree) (lv : Int) (hup : Up part) (w : World) (h : RrAt r σ s w) (hE : EndAt r) (hK : Known r.L) (hP : ∀ σ1 w1, Err (after (deepM lv) σ) σ1 → RrAt r σ1 s w1 → Calls Tryz.prog 68 #[.pointer (some ⟨r.b, 0, none⟩), .int .i64 lv] w1 (RrPost r part σ1 s w1)) :
  Calls Tryz.prog 38 #[.pointer (some ⟨r.b, 0, none⟩), .int .i64 lv] w (RrPost r (bindM (deepM lv) fun _ => takesR r part ⟨#[124, 124]⟩) σ s w) := by
 have HT := Lib.hid (St.start h)
 have HE := Lib.hid hE
 have HK := Lib.hid hK
 have HPT := Lib.hid hP
 obtain ⟨P, hP⟩ : ∃ P, (bindM (deepM lv) fun _ => takesR r part ⟨#[124, 124]⟩) = P := ⟨_, rfl⟩
 have hd : Due P σ (bindM (deepM lv) fun _ => takesR r part ⟨#[124, 124]⟩) σ := by rw [hP]; exact Due.refl _ _
 rw [hP]
 clear hP
 unfold takesR at hd
 have HD := Lib.hid hd
 clear h hE hK hd hP
 go_enter Tryz.func38, Tryz.ntmps38
 go_wp2_with fail
 generalize w.alloc (.cells #[.int .i64 0, .string ⟨#[]⟩, .int .i64 0, .slice none 0 0] 40) = w1 at *
 refine (deep_r r _ s lv _ HT.out.rr).mono ?_
 rintro e w2 ⟨rfl, hr, hm⟩
 replace HD := Lib.hid (HD.out.step (Got.unit _ _))
 replace HT := Lib.hid (HT.out.on hr hm)
 clear hr hm
 have HD0 := HD
 clear HD
 have HD := Lib.hid (Due.refl (takesR r part ⟨#[124, 124]⟩) (after (deepM lv) σ))
 generalize hσ2 : after (deepM lv) σ = σ2 at HT HD HD0 HPT
 clear hσ2
 go_wp2_with fail
 refine (HPT.out _ _ HD.out.er HT.out.rr).mono ?_
 rintro e w3 ⟨q1, t1, rfl, ht, hr, hm, hg⟩
 have HI := Lib.hid (ht.mono (fun b hb => Nat.lt_of_lt_of_le HT.out.up hb))
 replace HD := Lib.hid (HD.out.step hg)
 replace HT := Lib.hid (HT.out.on hr hm)
 clear hr hm hg ht
 unfold ndC
 go_wp2_with fail
 have HB := Lib.hid (Var.first HT.out HI.out)
 have hbx := boxB w3 (.cells (ndC q1) 40)
 replace HT := Lib.hid (HT.out.on (HT.out.rr.below hbx) (Mv.of_below hbx))
 clear hbx HI
 unfold ndC at HB HT
 obtain ⟨g, hg⟩ : ∃ g, w3.heap.size = g := ⟨_, rfl⟩
 rw [hg] at HB ⊢
 generalize w3.alloc (.cells #[.int .i64 q1.kind, .string q1.text, .int .i64 q1.at_, .slice q1.p q1.n q1.cap] 40) = w4 at *
 clear hg
 generalize after part _ = σ4 at HT HD
 go_loopw [13] (fun x wr => ∃ (f : Nat) (q : Raw) (t : Tree) (σ9 : Except Nat Nat), Hid (St r w σ9 s wr) ∧ Hid (Var r w g q t wr) ∧ Hid (Due (takesR r part ⟨#[124, 124]⟩) σ2 (chainT r part ⟨#[124, 124]⟩ f t) σ9) ∧ ∀ i, σ9 = .ok i → r.L.length ≤ f + i) (fun _ wr => roomOf r wr)
 case atStart => exact ⟨r.L.length + 1, q1, t1, σ4, HT.out, HB.out, HD.out, fun i e => by omega⟩
 case round =>
  clear HT HB HD
  obtain ⟨f, q, t, σ9, HT, HB, HD, HI0⟩ := hrel
  have HRM := Lib.hid (roomOf_eq HT.out.rr)
  replace HD := Lib.hid (HD.out.to (chainT_eq r part ⟨#[124, 124]⟩ f t))
  go_wp2_with fail
  have HT0 := HT
  refine (take_r r _ s ⟨#[124, 124]⟩ _ HT.out.rr HE.out HK.out (by decide) (known_of (by decide))).mono ?_
  rintro e w10 ⟨b, rfl, hr, hm, hg, hz⟩
  have HTK := Lib.hid hg
  replace HD := Lib.hid (HD.out.step hg)
  replace HT := Lib.hid (HT.out.on hr hm)
  replace HB := Lib.hid (HB.out.on hm)
  clear hr hm hg
  cases b
  ·obtain ⟨b0, b1, b2, b3⟩ := HB.out.box.cells
   have HW := Lib.hid (HT.out.ret (q := q) (HB.out.val))
   obtain ⟨d0, d1, d2, d3, f0⟩ := HT.out.res.cells
   try unfold ndC
   go_wp2_with fail
   obtain ⟨hcell, hist, hrr, hmv⟩ := HW.out
   exact bodyPost_ret (results_cellT rfl _ _ _ ⟨w.heap.size, 0, none⟩ _ rfl (load_node _ _ q hcell)) rfl ((HD0.out.lift <| HD.out.postP hist hrr hmv))
  ·obtain ⟨i9, hi9, ha9⟩ := took_true HTK.out hz
   have hfi := HI0 i9 hi9
   have hlt := HT0.out.rr
   rw [hi9] at hlt
   have hlt := hlt.lt
   obtain ⟨f', rfl⟩ : ∃ f', f = f' + 1 := ⟨f - 1, by omega⟩
   rw [ha9] at HT HD
   have HRM2 : Hid (roomOf r wr = r.L.length + 1 - i9) := by have := HRM.out; rw [hi9] at this; exact this
   clear HRM HT0 HTK ha9 hz hi9 HI0
   go_wp2_with fail
   have HO : Hid (∀ b, (none : Option Nat) = some b → r.b < b ∧ b < w10.heap.size) := fun b e => by cases e
   have HRW : Hid (r.b < w10.heap.size) := HT.out.rr.rb
   apply wp_region_many 7 (Sx r none 5 1000) (InvX r w none w10) (F0x r (.ok (i9 + 1)) s (r.b + 1) (.slice none 0 0) [] 5 1000)
   case hIS => exact fun i x y hs hi => hi.step i hs (fun b e => by cases e)
   case hk0 => exact F0x.keeps (v := .slice none 0 0) (by omega) (fun b e => by cases e)
   case hm => kernel_rfl
   case hB => kernel_rfl
   case h0 => exact InvX.start HT.out.mv
   case h1 => exact F0x.start HT.out.rr (Nodes.none _ _)
   simp only [List.take_succ_cons, List.take_zero, List.drop_succ_cons, List.drop_zero]
   apply wpMany_cons (t := tvIs (.pointer (some ⟨g, 2, none⟩))) (tvIs_goodS _ _)
   case h1 =>
    intro W hI hl
    unfold oneAt
    go_simp
    exact sx_is (by decide) (by decide)
   intro _
   rw [tvIs_f]
   go_simp
   apply wpMany_cons (t := tvIs (.int .i64 q.at_)) (tvIs_goodS _ _)
   case h1 =>
    intro W hI hl
    obtain ⟨b0, b1, b2, b3⟩ := (hI.box HB.out.box (fun e => by cases e)).cells
    unfold oneAt
    go_simp
    exact sx_is (by decide) (by decide)
   intro _
   rw [tvIs_f]
   go_simp
   apply wpMany_cons (t := tvIs (.agg #[.int .i64 q.kind, .string q.text, .int .i64 q.at_, .slice q.p q.n q.cap])) (tvIs_goodS _ _)
   case h1 =>
    intro W hI hl
    obtain ⟨b0, b1, b2, b3⟩ := (hI.box HB.out.box (fun e => by cases e)).cells
    unfold oneAt
    go_simp
    exact sx_is (by decide) (by decide)
   intro _
   rw [tvIs_f]
   go_simp
   apply wpMany_cons (t := tvIs (.pointer (some ⟨r.b, 0, none⟩))) (tvIs_goodS _ _)
   case h1 =>
    intro W hI hl
    unfold oneAt
    go_simp
    exact sx_is (by decide) (by decide)
   intro _
   rw [tvIs_f]
   go_simp
   apply wpMany_cons (t := tvIs (.int .i64 lv)) (tvIs_goodS _ _)
   case h1 =>
    intro W hI hl
    unfold oneAt
    go_simp
    exact sx_is (by decide) (by decide)
   intro _
   rw [tvIs_f]
   go_simp
   apply wpMany_cons (t := tyCall r w10 (part) (.ok (i9 + 1)) s) (tyCall_good HRW.out (fun b e => by have := HO.out b e; omega))
   case h1 =>
    intro W hI hl
    have hr : RrAt r (.ok (i9 + 1)) s W := hl.1.1 rfl
    unfold oneAt
    go_simp
    exact sx_call hI (HPT.out _ W HD.out.er hr)
   rintro ⟨q5, t5⟩
   rw [tyCall_f]
   unfold ndC
   go_simp
   apply wpMany_cons (t := tyRowA (since w g) 2 (fun l => ∃ u, l = [t, u] ∧ Got (part) (.ok (i9 + 1)) u)) (tyRowA_good (fun b hb => ⟨by have := hb.1; have := HB.out.box.old; omega, fun e => by cases e⟩))
   case h1 =>
    intro W hI hl
    have h5 : IsT (fun b => w10.heap.size ≤ b) W q5 t5 ∧ RrAt r (after (part) (.ok (i9 + 1))) s W ∧ Got (part) (.ok (i9 + 1)) t5 := hl.2 ⟨5, .data⟩ (by simp) rfl
    have hvt := (HB.out.inv hI).tree
    unfold oneAt
    go_simp
    exact sx_rowA [q, q5] [t, t5] hI (fun b hb => ⟨by have := lt_heap HB.out.box.z; have := HB.out.box.new; omega, by have := lt_heap HB.out.box.z; omega⟩) (by decide) (by decide) rfl rfl rfl (by decide) (by decide) (fun i a b => match i, a, b with | 0, _, _ => hvt | 1, _, _ => h5.1.mono (fun b hb => ⟨by have := lt_heap HB.out.box.z; have := HB.out.box.new; omega, by have := lt_heap HB.out.box.z; omega⟩) | i + 2, c, _ => absurd c (by simp)) (⟨t5, rfl, h5.2.2⟩)
   rintro ⟨g6, l6⟩
   rw [tyRowA_f]
   go_simp
   apply wpMany_nil (Ts := [])
   intro w21 hI hFa
   have h5 : IsT (fun b => w10.heap.size ≤ b) w21 q5 t5 ∧ RrAt r (after (part) (.ok (i9 + 1))) s w21 ∧ Got (part) (.ok (i9 + 1)) t5 := hFa 5
   have h6 : IsTs (since w g) w21 (.slice (some ⟨g6, 0, none⟩) 2 2) l6 ∧ ∃ u, l6 = [t, u] ∧ Got (part) (.ok (i9 + 1)) u := hFa 6
   obtain ⟨hl6, u6, hl6e, hg6⟩ := h6
   have hpl := HB.out.tree.parts.2.2.1
   replace HD := Lib.hid (HD.out.step hg6)
   replace HT := Lib.hid (hI.st HT.out h5.2.1 (fun b e => by cases e))
   replace HB := Lib.hid (HB.out.inv hI)
   have HN := Lib.hid (IsT.pair 28 ⟨#[124, 124]⟩ q.at_ hl6 hl6e)
   have HPL := Lib.hid hpl
   have HSZ := Lib.hid hI.size
   clear hI hFa h5 hl6 hl6e hg6 hpl HO HRW
   go_wp2_with fail
   refine (leaf_r 28 ⟨#[124, 124]⟩ q.at_ (some ⟨g6, 0, none⟩) 2 2 _ HT.out.rr).mono ?_
   rintro e w22 ⟨rfl, hr, hm⟩
   replace HT := Lib.hid (HT.out.on hr hm)
   replace HB := Lib.hid (HB.out.on hm)
   replace HN := Lib.hid (HN.out.mvG hm (fun b hb => by have := hb.1; have := HB.out.box.old; omega))
   clear hr hm
   have hst := HB.out.store HT.out HN.out
   obtain ⟨b0, b1, b2, b3⟩ := HB.out.box.cells
   have fz := HB.out.box.warm'
   replace HT := Lib.hid hst.1
   replace HB := Lib.hid hst.2
   rw [show Tree.mk 28 ⟨#[124, 124]⟩ q.at_ [t, u6] = .mk 28 ⟨#[124, 124]⟩ t.at_ [t, u6] from by rw [HPL.out]] at HB
   clear hst HN
   unfold ndC
   go_wp2_with fail
   clear b0 b1 b2 b3 fz
   generalize (((w22.setCell ⟨g, 0, none⟩ (.int .i64 28)).setCell ⟨g, 1, none⟩ (.string ⟨#[124, 124]⟩)).setCell ⟨g, 2, none⟩ (.int .i64 q.at_)).setCell ⟨g, 3, none⟩ (.slice (some ⟨g6, 0, none⟩) 2 2) = w23 at *
   have hup9 : ∀ j, after part (.ok (i9 + 1)) = .ok j → i9 + 1 ≤ j := fun j e => hup.after e
   generalize after part (.ok (i9 + 1)) = σ7 at HT HD hup9
   have hrm := roomOf_eq HT.out.rr
   go_roundw
   case rel => exact ⟨f', _, _, σ7, HT.out, HB.out, HD.out, fun i e => by have := hup9 i e; omega⟩
   case measure =>
    rw [hrm, HRM2.out]
    cases σ7 with
    | ok j => have := hup9 j rfl; have := HT.out.rr.lt; simp only [room]; omega
    | error k => simp only [room]; omega
end Go.Proofs.YtgcaeimlmkkeoaaGreat
namespace Go.Proofs.YtgcaeimlmkkeoaaGreat
open Go Go.RowKit
theorem Vmul_full : ∀ v ∈ Vmul, v.size ≠ 0 := by decide
theorem Vmul_known : ∀ v ∈ Vmul, v.toList ∈ knownL := by
 intro v hv
 simp only [Vmul, List.mem_cons, List.not_mem_nil, or_false] at hv
 rcases hv with rfl | rfl | rfl <;> exact known_of (by decide)
theorem Vadd_full : ∀ v ∈ Vadd, v.size ≠ 0 := by decide
theorem Vadd_known : ∀ v ∈ Vadd, v.toList ∈ knownL := by
 intro v hv
 simp only [Vadd, List.mem_cons, List.not_mem_nil, or_false] at hv
 rcases hv with rfl | rfl <;> exact known_of (by decide)
theorem Vrel_full : ∀ v ∈ Vrel, v.size ≠ 0 := by decide
theorem Vrel_known : ∀ v ∈ Vrel, v.toList ∈ knownL := by
 intro v hv
 simp only [Vrel, List.mem_cons, List.not_mem_nil, or_false] at hv
 rcases hv with rfl | rfl <;> exact known_of (by decide)
theorem Vun_full : ∀ v ∈ Vun, v.size ≠ 0 := by decide
theorem Vun_known : ∀ v ∈ Vun, v.toList ∈ knownL := by
 intro v hv
 simp only [Vun, List.mem_cons, List.not_mem_nil, or_false] at hv
 rcases hv with rfl | rfl <;> exact known_of (by decide)
theorem nil_empty : (⟨#[]⟩ : ByteArray).toList.isEmpty = true := by rw [ByteArray.toList_eq]; rfl
theorem UpS.after {α : Type} {p : PM α} (h : UpS p) {i j : Nat} (e : Proofs.YtgcaeimlmkkeoaaGreat.after p (.ok i) = .ok j) : i < j := by
 unfold Proofs.YtgcaeimlmkkeoaaGreat.after at e
 cases hp : p i with
 | error k => simp only [hp] at e; cases e
 | ok z =>
  obtain ⟨x, m⟩ := z
  simp only [hp, Except.ok.injEq] at e
  subst e
  exact h i x m hp
set_option maxRecDepth 100000 in
set_option maxHeartbeats 4000000 in
theorem rProd_any (r : Rdr) (σ : Except Nat Nat) (s : Bool) (part : PM Tree) (lv : Int) (hup : UpS part) (w : World) (h : RrAt r σ s w) (hE : EndAt r) (hK : Known r.L) (hP : ∀ σ1 w1, Err σ σ1 → RrAt r σ1 s w1 → Calls Tryz.prog 137 #[.pointer (some ⟨r.b, 0, none⟩), .int .i64 lv] w1 (RrPost r part σ1 s w1)) :
  Calls Tryz.prog 132 #[.pointer (some ⟨r.b, 0, none⟩), .int .i64 lv] w (RrPost r (signsR r part Vmul) σ s w) := by
 have HT := Lib.hid (St.start h)
 have HE := Lib.hid hE
 have HK := Lib.hid hK
 have HPT := Lib.hid hP
 obtain ⟨P, hP⟩ : ∃ P, (signsR r part Vmul) = P := ⟨_, rfl⟩
 have hd : Due P σ (signsR r part Vmul) σ := by rw [hP]; exact Due.refl _ _
 rw [hP]
 clear hP
 unfold signsR at hd
 have HD := Lib.hid hd
 clear h hE hK hd hP
 go_enter Tryz.func132, Tryz.ntmps132
 go_wp2_with fail
 generalize w.alloc (.cells #[.int .i64 0, .string ⟨#[]⟩, .int .i64 0, .slice none 0 0] 40) = w1 at *
 refine (HPT.out _ _ HD.out.er HT.out.rr).mono ?_
 rintro e w3 ⟨q1, t1, rfl, ht, hr, hm, hg⟩
 have HI := Lib.hid (ht.mono (fun b hb => Nat.lt_of_lt_of_le HT.out.up hb))
 replace HD := Lib.hid (HD.out.step hg)
 replace HT := Lib.hid (HT.out.on hr hm)
 clear hr hm hg ht
 unfold ndC
 go_wp2_with fail
 have HB := Lib.hid (Var.first HT.out HI.out)
 have hbx := boxB w3 (.cells (ndC q1) 40)
 replace HT := Lib.hid (HT.out.on (HT.out.rr.below hbx) (Mv.of_below hbx))
 clear hbx HI
 unfold ndC at HB HT
 have hsz : (w3.alloc (.cells #[.int .i64 q1.kind, .string q1.text, .int .i64 q1.at_, .slice q1.p q1.n q1.cap] 40)).heap.size = w3.heap.size + 1 := by simp
 obtain ⟨g, hg⟩ : ∃ g, w3.heap.size = g := ⟨_, rfl⟩
 rw [hg] at HB hsz ⊢
 generalize w3.alloc (.cells #[.int .i64 q1.kind, .string q1.text, .int .i64 q1.at_, .slice q1.p q1.n q1.cap] 40) = w4 at *
 clear hg
 have hbx := boxB w4 (.cells #[.string ⟨#[42]⟩, .string ⟨#[47]⟩, .string ⟨#[37]⟩] 9)
 have htx : TextsAt (w4.alloc (.cells #[.string ⟨#[42]⟩, .string ⟨#[47]⟩, .string ⟨#[37]⟩] 9)) (g + 1) 0 Vmul := by rw [← show w4.heap.size = g + 1 from hsz]; exact texts_row _ Vmul rfl
 have hbr : g + 1 ≠ r.b := by have h1 := HT.out.rr.rb; have h2 : w4.heap.size = g + 1 := hsz; omega
 replace HT := Lib.hid (HT.out.on (HT.out.rr.below hbx) (Mv.of_below hbx))
 replace HB := Lib.hid (HB.out.on (Mv.of_below hbx))
 clear hbx
 refine (rSign_any r _ s Vmul (g + 1) 0 3 3 _ HT.out.rr HE.out HK.out rfl (by decide) htx hbr Vmul_full Vmul_known).mono ?_
 rintro e w5 ⟨sg1, rfl, hm, hr, hg, hz⟩
 replace HD := Lib.hid (HD.out.step hg)
 replace HT := Lib.hid (HT.out.on hr hm)
 replace HB := Lib.hid (HB.out.on hm)
 clear hr hm htx hbr
 clear hsz
 have HSG := Lib.hid hz
 clear hz
 have hok : sg1.toList.isEmpty = false → ∃ i, after (signM r Vmul) (after part σ) = .ok i ∧ r.L.length ≤ r.L.length + 1 + i := by
  intro he
  cases hs : after (signM r Vmul) (after part σ) with
  | ok i => exact ⟨i, rfl, by omega⟩
  | error k =>
   exfalso
   cases hp : after part σ with
   | error k' => have := HSG.out k' hp; subst this; rw [nil_empty] at he; cases he
   | ok i' =>
    rw [hp] at hs
    unfold after signM at hs
    by_cases hh : hit (r.L.getD i' tok0).text Vmul = true
    ·simp only [if_pos hh] at hs; cases hs
    ·simp only [if_neg hh] at hs; cases hs
 clear HSG hg
 generalize after (signM r Vmul) (after part σ) = σ4 at HT HD hok
 go_wp2_with fail
 go_loopw [6] (fun v wr => ∃ (sg : ByteArray) (f : Nat) (q : Raw) (t : Tree) (σ9 : Except Nat Nat), v = .string sg ∧ Hid (St r w σ9 s wr) ∧ Hid (Var r w g q t wr) ∧ Hid (Due P σ (chainSK r part Vmul f t sg) σ9) ∧ (sg.toList.isEmpty = false → ∃ i, σ9 = .ok i ∧ r.L.length ≤ f + i)) (fun _ wr => roomOf r wr)
 case atStart => exact ⟨sg1, r.L.length + 1, q1, t1, σ4, rfl, HT.out, HB.out, HD.out, hok⟩
 case round =>
  clear HT HB HD hok
  obtain ⟨sg, f, q, t, σ9, rfl, HT, HB, HD, HI0⟩ := hrel
  have HRM := Lib.hid (roomOf_eq HT.out.rr)
  cases hz : sg.toList.isEmpty
  ·obtain ⟨i9, rfl, hfi⟩ := HI0 hz
   have hlt := HT.out.rr.lt
   obtain ⟨f', rfl⟩ : ∃ f', f = f' + 1 := ⟨f - 1, by omega⟩
   replace HD : Hid (Due P σ (bindM part fun u => bindM (signM r Vmul) fun sg' => chainSK r part Vmul f' (.mk 28 sg t.at_ [t, u]) sg') (.ok i9)) := by have h := HD.out; unfold chainSK at h; rw [hz] at h; exact h
   go_wp2_with fail
   have HO : Hid (∀ b, (none : Option Nat) = some b → r.b < b ∧ b < wr.heap.size) := fun b e => by cases e
   have HRW : Hid (r.b < wr.heap.size) := HT.out.rr.rb
   apply wp_region_many 8 (Sx r none 6 1000) (InvX r w none wr) (F0x r (.ok i9) s (r.b + 1) (.slice none 0 0) [] 6 1000)
   case hIS => exact fun i x y hs hi => hi.step i hs (fun b e => by cases e)
   case hk0 => exact F0x.keeps (v := .slice none 0 0) (by omega) (fun b e => by cases e)
   case hm => kernel_rfl
   case hB => kernel_rfl
   case h0 => exact InvX.start HT.out.mv
   case h1 => exact F0x.start HT.out.rr (Nodes.none _ _)
   simp only [List.take_succ_cons, List.take_zero, List.drop_succ_cons, List.drop_zero]
   apply wpMany_cons (t := tvIs (.string sg)) (tvIs_goodS _ _)
   case h1 =>
    intro W hI hl
    unfold oneAt
    go_simp
    exact sx_is (by decide) (by decide)
   intro _
   rw [tvIs_f]
   go_simp
   apply wpMany_cons (t := tvIs (.pointer (some ⟨g, 2, none⟩))) (tvIs_goodS _ _)
   case h1 =>
    intro W hI hl
    unfold oneAt
    go_simp
    exact sx_is (by decide) (by decide)
   intro _
   rw [tvIs_f]
   go_simp
   apply wpMany_cons (t := tvIs (.int .i64 q.at_)) (tvIs_goodS _ _)
   case h1 =>
    intro W hI hl
    obtain ⟨b0, b1, b2, b3⟩ := (hI.box HB.out.box (fun e => by cases e)).cells
    unfold oneAt
    go_simp
    exact sx_is (by decide) (by decide)
   intro _
   rw [tvIs_f]
   go_simp
   apply wpMany_cons (t := tvIs (.agg #[.int .i64 q.kind, .string q.text, .int .i64 q.at_, .slice q.p q.n q.cap])) (tvIs_goodS _ _)
   case h1 =>
    intro W hI hl
    obtain ⟨b0, b1, b2, b3⟩ := (hI.box HB.out.box (fun e => by cases e)).cells
    unfold oneAt
    go_simp
    exact sx_is (by decide) (by decide)
   intro _
   rw [tvIs_f]
   go_simp
   apply wpMany_cons (t := tvIs (.pointer (some ⟨r.b, 0, none⟩))) (tvIs_goodS _ _)
   case h1 =>
    intro W hI hl
    unfold oneAt
    go_simp
    exact sx_is (by decide) (by decide)
   intro _
   rw [tvIs_f]
   go_simp
   apply wpMany_cons (t := tvIs (.int .i64 lv)) (tvIs_goodS _ _)
   case h1 =>
    intro W hI hl
    unfold oneAt
    go_simp
    exact sx_is (by decide) (by decide)
   intro _
   rw [tvIs_f]
   go_simp
   apply wpMany_cons (t := tyCall r wr (part) (.ok i9) s) (tyCall_good HRW.out (fun b e => by have := HO.out b e; omega))
   case h1 =>
    intro W hI hl
    have hr : RrAt r (.ok i9) s W := hl.1.1 rfl
    unfold oneAt
    go_simp
    exact sx_call hI (HPT.out _ W HD.out.er hr)
   rintro ⟨q5, t5⟩
   rw [tyCall_f]
   unfold ndC
   go_simp
   apply wpMany_cons (t := tyRowA (since w g) 2 (fun l => ∃ u, l = [t, u] ∧ Got (part) (.ok i9) u)) (tyRowA_good (fun b hb => ⟨by have := hb.1; have := HB.out.box.old; omega, fun e => by cases e⟩))
   case h1 =>
    intro W hI hl
    have h5 : IsT (fun b => wr.heap.size ≤ b) W q5 t5 ∧ RrAt r (after (part) (.ok i9)) s W ∧ Got (part) (.ok i9) t5 := hl.2 ⟨6, .data⟩ (by simp) rfl
    have hvt := (HB.out.inv hI).tree
    unfold oneAt
    go_simp
    exact sx_rowA [q, q5] [t, t5] hI (fun b hb => ⟨by have := lt_heap HB.out.box.z; have := HB.out.box.new; omega, by have := lt_heap HB.out.box.z; omega⟩) (by decide) (by decide) rfl rfl rfl (by decide) (by decide) (fun i a b => match i, a, b with | 0, _, _ => hvt | 1, _, _ => h5.1.mono (fun b hb => ⟨by have := lt_heap HB.out.box.z; have := HB.out.box.new; omega, by have := lt_heap HB.out.box.z; omega⟩) | i + 2, c, _ => absurd c (by simp)) (⟨t5, rfl, h5.2.2⟩)
   rintro ⟨g6, l6⟩
   rw [tyRowA_f]
   go_simp
   apply wpMany_nil (Ts := [])
   intro w21 hI hFa
   have h5 : IsT (fun b => wr.heap.size ≤ b) w21 q5 t5 ∧ RrAt r (after (part) (.ok i9)) s w21 ∧ Got (part) (.ok i9) t5 := hFa 6
   have h6 : IsTs (since w g) w21 (.slice (some ⟨g6, 0, none⟩) 2 2) l6 ∧ ∃ u, l6 = [t, u] ∧ Got (part) (.ok i9) u := hFa 7
   obtain ⟨hl6, u6, hl6e, hg6⟩ := h6
   have hpl := HB.out.tree.parts.2.2.1
   replace HD := Lib.hid (HD.out.step hg6)
   replace HT := Lib.hid (hI.st HT.out h5.2.1 (fun b e => by cases e))
   replace HB := Lib.hid (HB.out.inv hI)
   have HN := Lib.hid (IsT.pair 28 sg q.at_ hl6 hl6e)
   have HPL := Lib.hid hpl
   have HSZ := Lib.hid hI.size
   clear hI hFa h5 hl6 hl6e hg6 hpl HO HRW
   go_wp2_with fail
   refine (leaf_r 28 sg q.at_ (some ⟨g6, 0, none⟩) 2 2 _ HT.out.rr).mono ?_
   rintro e w22 ⟨rfl, hr, hm⟩
   replace HT := Lib.hid (HT.out.on hr hm)
   replace HB := Lib.hid (HB.out.on hm)
   replace HN := Lib.hid (HN.out.mvG hm (fun b hb => by have := hb.1; have := HB.out.box.old; omega))
   clear hr hm
   have hst := HB.out.store HT.out HN.out
   obtain ⟨b0, b1, b2, b3⟩ := HB.out.box.cells
   have fz := HB.out.box.warm'
   replace HT := Lib.hid hst.1
   replace HB := Lib.hid hst.2
   rw [show Tree.mk 28 sg q.at_ [t, u6] = .mk 28 sg t.at_ [t, u6] from by rw [HPL.out]] at HB
   clear hst HN
   unfold ndC
   go_wp2_with fail
   clear b0 b1 b2 b3 fz
   have hsz : ((((w22.setCell ⟨g, 0, none⟩ (.int .i64 28)).setCell ⟨g, 1, none⟩ (.string sg)).setCell ⟨g, 2, none⟩ (.int .i64 q.at_)).setCell ⟨g, 3, none⟩ (.slice (some ⟨g6, 0, none⟩) 2 2)).heap.size = w22.heap.size := by simp [World.setCell]
   generalize (((w22.setCell ⟨g, 0, none⟩ (.int .i64 28)).setCell ⟨g, 1, none⟩ (.string sg)).setCell ⟨g, 2, none⟩ (.int .i64 q.at_)).setCell ⟨g, 3, none⟩ (.slice (some ⟨g6, 0, none⟩) 2 2) = w23 at *
   have hbx := boxB w23 (.cells #[.string ⟨#[42]⟩, .string ⟨#[47]⟩, .string ⟨#[37]⟩] 9)
   have htx : TextsAt (w23.alloc (.cells #[.string ⟨#[42]⟩, .string ⟨#[47]⟩, .string ⟨#[37]⟩] 9)) (w22.heap.size) 0 Vmul := by rw [← show w23.heap.size = w22.heap.size from hsz]; exact texts_row _ Vmul rfl
   have hbr : w22.heap.size ≠ r.b := by have h1 := HT.out.rr.rb; have h2 : w23.heap.size = w22.heap.size := hsz; omega
   replace HT := Lib.hid (HT.out.on (HT.out.rr.below hbx) (Mv.of_below hbx))
   replace HB := Lib.hid (HB.out.on (Mv.of_below hbx))
   clear hbx
   refine (rSign_any r _ s Vmul (w22.heap.size) 0 3 3 _ HT.out.rr HE.out HK.out rfl (by decide) htx hbr Vmul_full Vmul_known).mono ?_
   rintro e w24 ⟨sg2, rfl, hm, hr, hg, hz2⟩
   replace HD := Lib.hid (HD.out.step hg)
   replace HT := Lib.hid (HT.out.on hr hm)
   replace HB := Lib.hid (HB.out.on hm)
   clear hr hm htx hbr
   clear hsz hg
   have hup9 : ∀ j, after part (.ok i9) = .ok j → i9 < j := fun j e => hup.after e
   obtain ⟨σ7, hσ7⟩ : ∃ σ7, after part (.ok i9) = σ7 := ⟨_, rfl⟩
   rw [hσ7] at HT HD hup9 hz2
   clear hσ7
   have hok : sg2.toList.isEmpty = false → ∃ i, after (signM r Vmul) σ7 = .ok i ∧ r.L.length ≤ f' + i := by
    intro he
    cases σ7 with
    | error k' => have := hz2 k' rfl; subst this; rw [nil_empty] at he; cases he
    | ok i' =>
     have := hup9 i' rfl
     unfold after signM
     by_cases hh : hit (r.L.getD i' tok0).text Vmul = true
     ·simp only [if_pos hh]; exact ⟨i' + 1, rfl, by omega⟩
     ·simp only [if_neg hh]; exact ⟨i', rfl, by omega⟩
   have hrm := roomOf_eq HT.out.rr
   have hmeas : roomOf r w24 < roomOf r wr := by
    rw [hrm, HRM.out]
    cases hs : after (signM r Vmul) σ7 with
    | error k => have := hlt; simp only [room]; omega
    | ok j =>
     cases σ7 with
     | error k' => cases hs
     | ok i' =>
      have h1 := hup9 i' rfl
      have h2 := (up_sign r Vmul).after hs
      have h3 := hlt
      simp only [room]
      omega
   go_wp2_with fail
   go_roundw
   case rel => exact ⟨sg2, f', _, _, _, rfl, HT.out, HB.out, HD.out, hok⟩
   case measure => exact hmeas
  ·replace HD : Hid (Due P σ (pureM t) σ9) := by have h := HD.out; cases f <;> (unfold chainSK at h; rw [hz] at h; exact h)
   obtain ⟨b0, b1, b2, b3⟩ := HB.out.box.cells
   have HW := Lib.hid (HT.out.ret (q := q) (HB.out.val))
   obtain ⟨d0, d1, d2, d3, f0⟩ := HT.out.res.cells
   try unfold ndC
   go_wp2_with fail
   obtain ⟨hcell, hist, hrr, hmv⟩ := HW.out
   exact bodyPost_ret (results_cellT rfl _ _ _ ⟨w.heap.size, 0, none⟩ _ rfl (load_node _ _ q hcell)) rfl (HD.out.postP hist hrr hmv)
set_option maxRecDepth 100000 in
set_option maxHeartbeats 4000000 in
theorem rSum_any (r : Rdr) (σ : Except Nat Nat) (s : Bool) (part : PM Tree) (lv : Int) (hup : UpS part) (w : World) (h : RrAt r σ s w) (hE : EndAt r) (hK : Known r.L) (hP : ∀ σ1 w1, Err σ σ1 → RrAt r σ1 s w1 → Calls Tryz.prog 132 #[.pointer (some ⟨r.b, 0, none⟩), .int .i64 lv] w1 (RrPost r part σ1 s w1)) :
  Calls Tryz.prog 120 #[.pointer (some ⟨r.b, 0, none⟩), .int .i64 lv] w (RrPost r (signsR r part Vadd) σ s w) := by
 have HT := Lib.hid (St.start h)
 have HE := Lib.hid hE
 have HK := Lib.hid hK
 have HPT := Lib.hid hP
 obtain ⟨P, hP⟩ : ∃ P, (signsR r part Vadd) = P := ⟨_, rfl⟩
 have hd : Due P σ (signsR r part Vadd) σ := by rw [hP]; exact Due.refl _ _
 rw [hP]
 clear hP
 unfold signsR at hd
 have HD := Lib.hid hd
 clear h hE hK hd hP
 go_enter Tryz.func120, Tryz.ntmps120
 go_wp2_with fail
 generalize w.alloc (.cells #[.int .i64 0, .string ⟨#[]⟩, .int .i64 0, .slice none 0 0] 40) = w1 at *
 refine (HPT.out _ _ HD.out.er HT.out.rr).mono ?_
 rintro e w3 ⟨q1, t1, rfl, ht, hr, hm, hg⟩
 have HI := Lib.hid (ht.mono (fun b hb => Nat.lt_of_lt_of_le HT.out.up hb))
 replace HD := Lib.hid (HD.out.step hg)
 replace HT := Lib.hid (HT.out.on hr hm)
 clear hr hm hg ht
 unfold ndC
 go_wp2_with fail
 have HB := Lib.hid (Var.first HT.out HI.out)
 have hbx := boxB w3 (.cells (ndC q1) 40)
 replace HT := Lib.hid (HT.out.on (HT.out.rr.below hbx) (Mv.of_below hbx))
 clear hbx HI
 unfold ndC at HB HT
 have hsz : (w3.alloc (.cells #[.int .i64 q1.kind, .string q1.text, .int .i64 q1.at_, .slice q1.p q1.n q1.cap] 40)).heap.size = w3.heap.size + 1 := by simp
 obtain ⟨g, hg⟩ : ∃ g, w3.heap.size = g := ⟨_, rfl⟩
 rw [hg] at HB hsz ⊢
 generalize w3.alloc (.cells #[.int .i64 q1.kind, .string q1.text, .int .i64 q1.at_, .slice q1.p q1.n q1.cap] 40) = w4 at *
 clear hg
 have hbx := boxB w4 (.cells #[.string ⟨#[43]⟩, .string ⟨#[45]⟩] 9)
 have htx : TextsAt (w4.alloc (.cells #[.string ⟨#[43]⟩, .string ⟨#[45]⟩] 9)) (g + 1) 0 Vadd := by rw [← show w4.heap.size = g + 1 from hsz]; exact texts_row _ Vadd rfl
 have hbr : g + 1 ≠ r.b := by have h1 := HT.out.rr.rb; have h2 : w4.heap.size = g + 1 := hsz; omega
 replace HT := Lib.hid (HT.out.on (HT.out.rr.below hbx) (Mv.of_below hbx))
 replace HB := Lib.hid (HB.out.on (Mv.of_below hbx))
 clear hbx
 refine (rSign_any r _ s Vadd (g + 1) 0 2 2 _ HT.out.rr HE.out HK.out rfl (by decide) htx hbr Vadd_full Vadd_known).mono ?_
 rintro e w5 ⟨sg1, rfl, hm, hr, hg, hz⟩
 replace HD := Lib.hid (HD.out.step hg)
 replace HT := Lib.hid (HT.out.on hr hm)
 replace HB := Lib.hid (HB.out.on hm)
 clear hr hm htx hbr
 clear hsz
 have HSG := Lib.hid hz
 clear hz
 have hok : sg1.toList.isEmpty = false → ∃ i, after (signM r Vadd) (after part σ) = .ok i ∧ r.L.length ≤ r.L.length + 1 + i := by
  intro he
  cases hs : after (signM r Vadd) (after part σ) with
  | ok i => exact ⟨i, rfl, by omega⟩
  | error k =>
   exfalso
   cases hp : after part σ with
   | error k' => have := HSG.out k' hp; subst this; rw [nil_empty] at he; cases he
   | ok i' =>
    rw [hp] at hs
    unfold after signM at hs
    by_cases hh : hit (r.L.getD i' tok0).text Vadd = true
    ·simp only [if_pos hh] at hs; cases hs
    ·simp only [if_neg hh] at hs; cases hs
 clear HSG hg
 generalize after (signM r Vadd) (after part σ) = σ4 at HT HD hok
 go_wp2_with fail
 go_loopw [6] (fun v wr => ∃ (sg : ByteArray) (f : Nat) (q : Raw) (t : Tree) (σ9 : Except Nat Nat), v = .string sg ∧ Hid (St r w σ9 s wr) ∧ Hid (Var r w g q t wr) ∧ Hid (Due P σ (chainSK r part Vadd f t sg) σ9) ∧ (sg.toList.isEmpty = false → ∃ i, σ9 = .ok i ∧ r.L.length ≤ f + i)) (fun _ wr => roomOf r wr)
 case atStart => exact ⟨sg1, r.L.length + 1, q1, t1, σ4, rfl, HT.out, HB.out, HD.out, hok⟩
 case round =>
  clear HT HB HD hok
  obtain ⟨sg, f, q, t, σ9, rfl, HT, HB, HD, HI0⟩ := hrel
  have HRM := Lib.hid (roomOf_eq HT.out.rr)
  cases hz : sg.toList.isEmpty
  ·obtain ⟨i9, rfl, hfi⟩ := HI0 hz
   have hlt := HT.out.rr.lt
   obtain ⟨f', rfl⟩ : ∃ f', f = f' + 1 := ⟨f - 1, by omega⟩
   replace HD : Hid (Due P σ (bindM part fun u => bindM (signM r Vadd) fun sg' => chainSK r part Vadd f' (.mk 28 sg t.at_ [t, u]) sg') (.ok i9)) := by have h := HD.out; unfold chainSK at h; rw [hz] at h; exact h
   go_wp2_with fail
   have HO : Hid (∀ b, (none : Option Nat) = some b → r.b < b ∧ b < wr.heap.size) := fun b e => by cases e
   have HRW : Hid (r.b < wr.heap.size) := HT.out.rr.rb
   apply wp_region_many 8 (Sx r none 6 1000) (InvX r w none wr) (F0x r (.ok i9) s (r.b + 1) (.slice none 0 0) [] 6 1000)
   case hIS => exact fun i x y hs hi => hi.step i hs (fun b e => by cases e)
   case hk0 => exact F0x.keeps (v := .slice none 0 0) (by omega) (fun b e => by cases e)
   case hm => kernel_rfl
   case hB => kernel_rfl
   case h0 => exact InvX.start HT.out.mv
   case h1 => exact F0x.start HT.out.rr (Nodes.none _ _)
   simp only [List.take_succ_cons, List.take_zero, List.drop_succ_cons, List.drop_zero]
   apply wpMany_cons (t := tvIs (.string sg)) (tvIs_goodS _ _)
   case h1 =>
    intro W hI hl
    unfold oneAt
    go_simp
    exact sx_is (by decide) (by decide)
   intro _
   rw [tvIs_f]
   go_simp
   apply wpMany_cons (t := tvIs (.pointer (some ⟨g, 2, none⟩))) (tvIs_goodS _ _)
   case h1 =>
    intro W hI hl
    unfold oneAt
    go_simp
    exact sx_is (by decide) (by decide)
   intro _
   rw [tvIs_f]
   go_simp
   apply wpMany_cons (t := tvIs (.int .i64 q.at_)) (tvIs_goodS _ _)
   case h1 =>
    intro W hI hl
    obtain ⟨b0, b1, b2, b3⟩ := (hI.box HB.out.box (fun e => by cases e)).cells
    unfold oneAt
    go_simp
    exact sx_is (by decide) (by decide)
   intro _
   rw [tvIs_f]
   go_simp
   apply wpMany_cons (t := tvIs (.agg #[.int .i64 q.kind, .string q.text, .int .i64 q.at_, .slice q.p q.n q.cap])) (tvIs_goodS _ _)
   case h1 =>
    intro W hI hl
    obtain ⟨b0, b1, b2, b3⟩ := (hI.box HB.out.box (fun e => by cases e)).cells
    unfold oneAt
    go_simp
    exact sx_is (by decide) (by decide)
   intro _
   rw [tvIs_f]
   go_simp
   apply wpMany_cons (t := tvIs (.pointer (some ⟨r.b, 0, none⟩))) (tvIs_goodS _ _)
   case h1 =>
    intro W hI hl
    unfold oneAt
    go_simp
    exact sx_is (by decide) (by decide)
   intro _
   rw [tvIs_f]
   go_simp
   apply wpMany_cons (t := tvIs (.int .i64 lv)) (tvIs_goodS _ _)
   case h1 =>
    intro W hI hl
    unfold oneAt
    go_simp
    exact sx_is (by decide) (by decide)
   intro _
   rw [tvIs_f]
   go_simp
   apply wpMany_cons (t := tyCall r wr (part) (.ok i9) s) (tyCall_good HRW.out (fun b e => by have := HO.out b e; omega))
   case h1 =>
    intro W hI hl
    have hr : RrAt r (.ok i9) s W := hl.1.1 rfl
    unfold oneAt
    go_simp
    exact sx_call hI (HPT.out _ W HD.out.er hr)
   rintro ⟨q5, t5⟩
   rw [tyCall_f]
   unfold ndC
   go_simp
   apply wpMany_cons (t := tyRowA (since w g) 2 (fun l => ∃ u, l = [t, u] ∧ Got (part) (.ok i9) u)) (tyRowA_good (fun b hb => ⟨by have := hb.1; have := HB.out.box.old; omega, fun e => by cases e⟩))
   case h1 =>
    intro W hI hl
    have h5 : IsT (fun b => wr.heap.size ≤ b) W q5 t5 ∧ RrAt r (after (part) (.ok i9)) s W ∧ Got (part) (.ok i9) t5 := hl.2 ⟨6, .data⟩ (by simp) rfl
    have hvt := (HB.out.inv hI).tree
    unfold oneAt
    go_simp
    exact sx_rowA [q, q5] [t, t5] hI (fun b hb => ⟨by have := lt_heap HB.out.box.z; have := HB.out.box.new; omega, by have := lt_heap HB.out.box.z; omega⟩) (by decide) (by decide) rfl rfl rfl (by decide) (by decide) (fun i a b => match i, a, b with | 0, _, _ => hvt | 1, _, _ => h5.1.mono (fun b hb => ⟨by have := lt_heap HB.out.box.z; have := HB.out.box.new; omega, by have := lt_heap HB.out.box.z; omega⟩) | i + 2, c, _ => absurd c (by simp)) (⟨t5, rfl, h5.2.2⟩)
   rintro ⟨g6, l6⟩
   rw [tyRowA_f]
   go_simp
   apply wpMany_nil (Ts := [])
   intro w21 hI hFa
   have h5 : IsT (fun b => wr.heap.size ≤ b) w21 q5 t5 ∧ RrAt r (after (part) (.ok i9)) s w21 ∧ Got (part) (.ok i9) t5 := hFa 6
   have h6 : IsTs (since w g) w21 (.slice (some ⟨g6, 0, none⟩) 2 2) l6 ∧ ∃ u, l6 = [t, u] ∧ Got (part) (.ok i9) u := hFa 7
   obtain ⟨hl6, u6, hl6e, hg6⟩ := h6
   have hpl := HB.out.tree.parts.2.2.1
   replace HD := Lib.hid (HD.out.step hg6)
   replace HT := Lib.hid (hI.st HT.out h5.2.1 (fun b e => by cases e))
   replace HB := Lib.hid (HB.out.inv hI)
   have HN := Lib.hid (IsT.pair 28 sg q.at_ hl6 hl6e)
   have HPL := Lib.hid hpl
   have HSZ := Lib.hid hI.size
   clear hI hFa h5 hl6 hl6e hg6 hpl HO HRW
   go_wp2_with fail
   refine (leaf_r 28 sg q.at_ (some ⟨g6, 0, none⟩) 2 2 _ HT.out.rr).mono ?_
   rintro e w22 ⟨rfl, hr, hm⟩
   replace HT := Lib.hid (HT.out.on hr hm)
   replace HB := Lib.hid (HB.out.on hm)
   replace HN := Lib.hid (HN.out.mvG hm (fun b hb => by have := hb.1; have := HB.out.box.old; omega))
   clear hr hm
   have hst := HB.out.store HT.out HN.out
   obtain ⟨b0, b1, b2, b3⟩ := HB.out.box.cells
   have fz := HB.out.box.warm'
   replace HT := Lib.hid hst.1
   replace HB := Lib.hid hst.2
   rw [show Tree.mk 28 sg q.at_ [t, u6] = .mk 28 sg t.at_ [t, u6] from by rw [HPL.out]] at HB
   clear hst HN
   unfold ndC
   go_wp2_with fail
   clear b0 b1 b2 b3 fz
   have hsz : ((((w22.setCell ⟨g, 0, none⟩ (.int .i64 28)).setCell ⟨g, 1, none⟩ (.string sg)).setCell ⟨g, 2, none⟩ (.int .i64 q.at_)).setCell ⟨g, 3, none⟩ (.slice (some ⟨g6, 0, none⟩) 2 2)).heap.size = w22.heap.size := by simp [World.setCell]
   generalize (((w22.setCell ⟨g, 0, none⟩ (.int .i64 28)).setCell ⟨g, 1, none⟩ (.string sg)).setCell ⟨g, 2, none⟩ (.int .i64 q.at_)).setCell ⟨g, 3, none⟩ (.slice (some ⟨g6, 0, none⟩) 2 2) = w23 at *
   have hbx := boxB w23 (.cells #[.string ⟨#[43]⟩, .string ⟨#[45]⟩] 9)
   have htx : TextsAt (w23.alloc (.cells #[.string ⟨#[43]⟩, .string ⟨#[45]⟩] 9)) (w22.heap.size) 0 Vadd := by rw [← show w23.heap.size = w22.heap.size from hsz]; exact texts_row _ Vadd rfl
   have hbr : w22.heap.size ≠ r.b := by have h1 := HT.out.rr.rb; have h2 : w23.heap.size = w22.heap.size := hsz; omega
   replace HT := Lib.hid (HT.out.on (HT.out.rr.below hbx) (Mv.of_below hbx))
   replace HB := Lib.hid (HB.out.on (Mv.of_below hbx))
   clear hbx
   refine (rSign_any r _ s Vadd (w22.heap.size) 0 2 2 _ HT.out.rr HE.out HK.out rfl (by decide) htx hbr Vadd_full Vadd_known).mono ?_
   rintro e w24 ⟨sg2, rfl, hm, hr, hg, hz2⟩
   replace HD := Lib.hid (HD.out.step hg)
   replace HT := Lib.hid (HT.out.on hr hm)
   replace HB := Lib.hid (HB.out.on hm)
   clear hr hm htx hbr
   clear hsz hg
   have hup9 : ∀ j, after part (.ok i9) = .ok j → i9 < j := fun j e => hup.after e
   obtain ⟨σ7, hσ7⟩ : ∃ σ7, after part (.ok i9) = σ7 := ⟨_, rfl⟩
   rw [hσ7] at HT HD hup9 hz2
   clear hσ7
   have hok : sg2.toList.isEmpty = false → ∃ i, after (signM r Vadd) σ7 = .ok i ∧ r.L.length ≤ f' + i := by
    intro he
    cases σ7 with
    | error k' => have := hz2 k' rfl; subst this; rw [nil_empty] at he; cases he
    | ok i' =>
     have := hup9 i' rfl
     unfold after signM
     by_cases hh : hit (r.L.getD i' tok0).text Vadd = true
     ·simp only [if_pos hh]; exact ⟨i' + 1, rfl, by omega⟩
     ·simp only [if_neg hh]; exact ⟨i', rfl, by omega⟩
   have hrm := roomOf_eq HT.out.rr
   have hmeas : roomOf r w24 < roomOf r wr := by
    rw [hrm, HRM.out]
    cases hs : after (signM r Vadd) σ7 with
    | error k => have := hlt; simp only [room]; omega
    | ok j =>
     cases σ7 with
     | error k' => cases hs
     | ok i' =>
      have h1 := hup9 i' rfl
      have h2 := (up_sign r Vadd).after hs
      have h3 := hlt
      simp only [room]
      omega
   go_wp2_with fail
   go_roundw
   case rel => exact ⟨sg2, f', _, _, _, rfl, HT.out, HB.out, HD.out, hok⟩
   case measure => exact hmeas
  ·replace HD : Hid (Due P σ (pureM t) σ9) := by have h := HD.out; cases f <;> (unfold chainSK at h; rw [hz] at h; exact h)
   obtain ⟨b0, b1, b2, b3⟩ := HB.out.box.cells
   have HW := Lib.hid (HT.out.ret (q := q) (HB.out.val))
   obtain ⟨d0, d1, d2, d3, f0⟩ := HT.out.res.cells
   try unfold ndC
   go_wp2_with fail
   obtain ⟨hcell, hist, hrr, hmv⟩ := HW.out
   exact bodyPost_ret (results_cellT rfl _ _ _ ⟨w.heap.size, 0, none⟩ _ rfl (load_node _ _ q hcell)) rfl (HD.out.postP hist hrr hmv)
set_option maxRecDepth 100000 in
set_option maxHeartbeats 4000000 in
theorem rRel_any (r : Rdr) (σ : Except Nat Nat) (s : Bool) (part : PM Tree) (lv : Int) (hup : UpS part) (w : World) (h : RrAt r σ s w) (hE : EndAt r) (hK : Known r.L) (hP : ∀ σ1 w1, Err σ σ1 → RrAt r σ1 s w1 → Calls Tryz.prog 120 #[.pointer (some ⟨r.b, 0, none⟩), .int .i64 lv] w1 (RrPost r part σ1 s w1)) :
  Calls Tryz.prog 91 #[.pointer (some ⟨r.b, 0, none⟩), .int .i64 lv] w (RrPost r (onceR r part Vrel) σ s w) := by
 have HT := Lib.hid (St.start h)
 have HE := Lib.hid hE
 have HK := Lib.hid hK
 have HPT := Lib.hid hP
 obtain ⟨P, hP⟩ : ∃ P, (onceR r part Vrel) = P := ⟨_, rfl⟩
 have hd : Due P σ (onceR r part Vrel) σ := by rw [hP]; exact Due.refl _ _
 rw [hP]
 clear hP
 unfold onceR at hd
 have HD := Lib.hid hd
 clear h hE hK hd hP
 go_enter Tryz.func91, Tryz.ntmps91
 go_wp2_with fail
 generalize w.alloc (.cells #[.int .i64 0, .string ⟨#[]⟩, .int .i64 0, .slice none 0 0] 40) = w1 at *
 refine (HPT.out _ _ HD.out.er HT.out.rr).mono ?_
 rintro e w3 ⟨q, t, rfl, ht, hr, hm, hg⟩
 have HI := Lib.hid (ht.mono (fun b hb => Nat.lt_of_lt_of_le HT.out.up hb))
 replace HD := Lib.hid (HD.out.step hg)
 replace HT := Lib.hid (HT.out.on hr hm)
 clear hr hm hg ht
 unfold ndC
 go_wp2_with fail
 have HB := Lib.hid (Var.first HT.out HI.out)
 have hbx := boxB w3 (.cells (ndC q) 40)
 replace HT := Lib.hid (HT.out.on (HT.out.rr.below hbx) (Mv.of_below hbx))
 clear hbx HI
 unfold ndC at HB HT
 have hsz : (w3.alloc (.cells #[.int .i64 q.kind, .string q.text, .int .i64 q.at_, .slice q.p q.n q.cap] 40)).heap.size = w3.heap.size + 1 := by simp
 obtain ⟨g, hg⟩ : ∃ g, w3.heap.size = g := ⟨_, rfl⟩
 rw [hg] at HB hsz ⊢
 generalize w3.alloc (.cells #[.int .i64 q.kind, .string q.text, .int .i64 q.at_, .slice q.p q.n q.cap] 40) = w4 at *
 clear hg
 have hbx := boxB w4 (.cells #[.string ⟨#[60]⟩, .string ⟨#[61, 61]⟩] 9)
 have htx : TextsAt (w4.alloc (.cells #[.string ⟨#[60]⟩, .string ⟨#[61, 61]⟩] 9)) (g + 1) 0 Vrel := by rw [← show w4.heap.size = g + 1 from hsz]; exact texts_row _ Vrel rfl
 have hbr : g + 1 ≠ r.b := by have h1 := HT.out.rr.rb; have h2 : w4.heap.size = g + 1 := hsz; omega
 replace HT := Lib.hid (HT.out.on (HT.out.rr.below hbx) (Mv.of_below hbx))
 replace HB := Lib.hid (HB.out.on (Mv.of_below hbx))
 clear hbx
 refine (rSign_any r _ s Vrel (g + 1) 0 2 2 _ HT.out.rr HE.out HK.out rfl (by decide) htx hbr Vrel_full Vrel_known).mono ?_
 rintro e w5 ⟨sg, rfl, hm, hr, hg, hz⟩
 replace HD := Lib.hid (HD.out.step hg)
 replace HT := Lib.hid (HT.out.on hr hm)
 replace HB := Lib.hid (HB.out.on hm)
 clear hr hm htx hbr
 clear hsz
 have HSG := Lib.hid hz
 clear hz
 have HGS := Lib.hid hg
 clear hg
 obtain ⟨σ9, hσ9⟩ : ∃ σ9, after (signM r Vrel) (after part σ) = σ9 := ⟨_, rfl⟩
 rw [hσ9] at HT HD
 clear hσ9
 cases hz : sg.toList.isEmpty
 ·replace HD : Hid (Due P σ (bindM part fun u => pureM (.mk 28 sg t.at_ [t, u])) σ9) := by have h := HD.out; rw [hz] at h; exact h
  go_wp2_with fail
  rename_i KK hKK
  have HKK := Lib.hid hKK
  clear hKK
  have HO : Hid (∀ b, (none : Option Nat) = some b → r.b < b ∧ b < w5.heap.size) := fun b e => by cases e
  have HRW : Hid (r.b < w5.heap.size) := HT.out.rr.rb
  apply wp_region_many 8 (Sx r none 6 1000) (InvX r w none w5) (F0x r σ9 s (r.b + 1) (.slice none 0 0) [] 6 1000)
  case hIS => exact fun i x y hs hi => hi.step i hs (fun b e => by cases e)
  case hk0 => exact F0x.keeps (v := .slice none 0 0) (by omega) (fun b e => by cases e)
  case hm => kernel_rfl
  case hB => kernel_rfl
  case h0 => exact InvX.start HT.out.mv
  case h1 => exact F0x.start HT.out.rr (Nodes.none _ _)
  simp only [List.take_succ_cons, List.take_zero, List.drop_succ_cons, List.drop_zero]
  apply wpMany_cons (t := tvIs (.string sg)) (tvIs_goodS _ _)
  case h1 =>
   intro W hI hl
   unfold oneAt
   go_simp
   exact sx_is (by decide) (by decide)
  intro _
  rw [tvIs_f]
  go_simp
  apply wpMany_cons (t := tvIs (.pointer (some ⟨g, 2, none⟩))) (tvIs_goodS _ _)
  case h1 =>
   intro W hI hl
   unfold oneAt
   go_simp
   exact sx_is (by decide) (by decide)
  intro _
  rw [tvIs_f]
  go_simp
  apply wpMany_cons (t := tvIs (.int .i64 q.at_)) (tvIs_goodS _ _)
  case h1 =>
   intro W hI hl
   obtain ⟨b0, b1, b2, b3⟩ := (hI.box HB.out.box (fun e => by cases e)).cells
   unfold oneAt
   go_simp
   exact sx_is (by decide) (by decide)
  intro _
  rw [tvIs_f]
  go_simp
  apply wpMany_cons (t := tvIs (.agg #[.int .i64 q.kind, .string q.text, .int .i64 q.at_, .slice q.p q.n q.cap])) (tvIs_goodS _ _)
  case h1 =>
   intro W hI hl
   obtain ⟨b0, b1, b2, b3⟩ := (hI.box HB.out.box (fun e => by cases e)).cells
   unfold oneAt
   go_simp
   exact sx_is (by decide) (by decide)
  intro _
  rw [tvIs_f]
  go_simp
  apply wpMany_cons (t := tvIs (.pointer (some ⟨r.b, 0, none⟩))) (tvIs_goodS _ _)
  case h1 =>
   intro W hI hl
   unfold oneAt
   go_simp
   exact sx_is (by decide) (by decide)
  intro _
  rw [tvIs_f]
  go_simp
  apply wpMany_cons (t := tvIs (.int .i64 lv)) (tvIs_goodS _ _)
  case h1 =>
   intro W hI hl
   unfold oneAt
   go_simp
   exact sx_is (by decide) (by decide)
  intro _
  rw [tvIs_f]
  go_simp
  apply wpMany_cons (t := tyCall r w5 (part) σ9 s) (tyCall_good HRW.out (fun b e => by have := HO.out b e; omega))
  case h1 =>
   intro W hI hl
   have hr : RrAt r σ9 s W := hl.1.1 rfl
   unfold oneAt
   go_simp
   exact sx_call hI (HPT.out _ W HD.out.er hr)
  rintro ⟨q5, t5⟩
  rw [tyCall_f]
  unfold ndC
  go_simp
  apply wpMany_cons (t := tyRowA (since w g) 2 (fun l => ∃ u, l = [t, u] ∧ Got (part) σ9 u)) (tyRowA_good (fun b hb => ⟨by have := hb.1; have := HB.out.box.old; omega, fun e => by cases e⟩))
  case h1 =>
   intro W hI hl
   have h5 : IsT (fun b => w5.heap.size ≤ b) W q5 t5 ∧ RrAt r (after (part) σ9) s W ∧ Got (part) σ9 t5 := hl.2 ⟨6, .data⟩ (by simp) rfl
   have hvt := (HB.out.inv hI).tree
   unfold oneAt
   go_simp
   exact sx_rowA [q, q5] [t, t5] hI (fun b hb => ⟨by have := lt_heap HB.out.box.z; have := HB.out.box.new; omega, by have := lt_heap HB.out.box.z; omega⟩) (by decide) (by decide) rfl rfl rfl (by decide) (by decide) (fun i a b => match i, a, b with | 0, _, _ => hvt | 1, _, _ => h5.1.mono (fun b hb => ⟨by have := lt_heap HB.out.box.z; have := HB.out.box.new; omega, by have := lt_heap HB.out.box.z; omega⟩) | i + 2, c, _ => absurd c (by simp)) (⟨t5, rfl, h5.2.2⟩)
  rintro ⟨g6, l6⟩
  rw [tyRowA_f]
  go_simp
  apply wpMany_nil (Ts := [])
  intro w21 hI hFa
  have h5 : IsT (fun b => w5.heap.size ≤ b) w21 q5 t5 ∧ RrAt r (after (part) σ9) s w21 ∧ Got (part) σ9 t5 := hFa 6
  have h6 : IsTs (since w g) w21 (.slice (some ⟨g6, 0, none⟩) 2 2) l6 ∧ ∃ u, l6 = [t, u] ∧ Got (part) σ9 u := hFa 7
  obtain ⟨hl6, u6, hl6e, hg6⟩ := h6
  have hpl := HB.out.tree.parts.2.2.1
  replace HD := Lib.hid (HD.out.step hg6)
  replace HT := Lib.hid (hI.st HT.out h5.2.1 (fun b e => by cases e))
  replace HB := Lib.hid (HB.out.inv hI)
  have HN := Lib.hid (IsT.pair 28 sg q.at_ hl6 hl6e)
  have HPL := Lib.hid hpl
  have HSZ := Lib.hid hI.size
  clear hI hFa h5 hl6 hl6e hg6 hpl HO HRW
  go_wp2_with fail
  refine (leaf_r 28 sg q.at_ (some ⟨g6, 0, none⟩) 2 2 _ HT.out.rr).mono ?_
  rintro e w22 ⟨rfl, hr, hm⟩
  replace HT := Lib.hid (HT.out.on hr hm)
  replace HB := Lib.hid (HB.out.on hm)
  replace HN := Lib.hid (HN.out.mvG hm (fun b hb => by have := hb.1; have := HB.out.box.old; omega))
  clear hr hm
  have hst := HB.out.store HT.out HN.out
  obtain ⟨b0, b1, b2, b3⟩ := HB.out.box.cells
  have fz := HB.out.box.warm'
  replace HT := Lib.hid hst.1
  replace HB := Lib.hid hst.2
  rw [show Tree.mk 28 sg q.at_ [t, u6] = .mk 28 sg t.at_ [t, u6] from by rw [HPL.out]] at HB
  clear hst HN
  unfold ndC
  go_wp2_with fail
  clear b0 b1 b2 b3 fz
  generalize (((w22.setCell ⟨g, 0, none⟩ (.int .i64 28)).setCell ⟨g, 1, none⟩ (.string sg)).setCell ⟨g, 2, none⟩ (.int .i64 q.at_)).setCell ⟨g, 3, none⟩ (.slice (some ⟨g6, 0, none⟩) 2 2) = w23 at *
  refine HKK.out _ _ ?_
  obtain ⟨b0, b1, b2, b3⟩ := HB.out.box.cells
  have HW := Lib.hid (HT.out.ret (q := ⟨28, sg, q.at_, some ⟨g6, 0, none⟩, 2, 2⟩) (HB.out.val))
  obtain ⟨d0, d1, d2, d3, f0⟩ := HT.out.res.cells
  try unfold ndC
  go_wp2_with fail
  obtain ⟨hcell, hist, hrr, hmv⟩ := HW.out
  exact bodyPost_ret (results_cellT rfl _ _ _ ⟨w.heap.size, 0, none⟩ _ rfl (load_node _ _ ⟨28, sg, q.at_, some ⟨g6, 0, none⟩, 2, 2⟩ hcell)) rfl (HD.out.postP hist hrr hmv)
 ·replace HD : Hid (Due P σ (pureM t) σ9) := by have h := HD.out; rw [hz] at h; exact h
  obtain ⟨b0, b1, b2, b3⟩ := HB.out.box.cells
  have HW := Lib.hid (HT.out.ret (q := q) (HB.out.val))
  obtain ⟨d0, d1, d2, d3, f0⟩ := HT.out.res.cells
  try unfold ndC
  go_wp2_with fail
  obtain ⟨hcell, hist, hrr, hmv⟩ := HW.out
  exact bodyPost_ret (results_cellT rfl _ _ _ ⟨w.heap.size, 0, none⟩ _ rfl (load_node _ _ q hcell)) rfl (HD.out.postP hist hrr hmv)
end Go.Proofs.YtgcaeimlmkkeoaaGreat
