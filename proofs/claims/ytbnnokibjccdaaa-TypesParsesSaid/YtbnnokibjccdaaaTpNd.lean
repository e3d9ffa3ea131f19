/-
  CONTRACT: the reader's node: its frame.
-/
import Derived.Test.YtbnnokibjccdaaaTpW
namespace Go.Proofs.Ytbnnokibjccdaaa
open Go Go.RowKit Go.Maps
set_option linter.unusedVariables false
set_option linter.unusedSimpArgs false
set_option maxRecDepth 100000

theorem heap_lt_of {w : World} {b : Nat} {o : Obj} (h : w.heap[b]? = some o) : b < w.heap.size := (Array.getElem?_eq_some_iff.1 h).1
theorem But.block_ne {b k : Nat} {w w' : World} (h : But (inB b) w w') (hk : k ≠ b) {o : Obj} (hc : w.heap[k]? = some o) : w'.heap[k]? = some o := by
  rw [h.block k (heap_lt_of hc) (fun a ha q => hk (by rw [← ha]; exact q))]
  exact hc
theorem But.after {M : Addr → Prop} {w wx wf : World} (h : But M w wx) (hb : Below w.heap.size wx wf) : But M w wf :=
  ⟨hb.os.trans h.os, hb.tape.trans h.tape, hb.output.trans h.output, Nat.le_trans h.size hb.size, fun a ha hm => (hb.cell ha).trans (h.cell a ha hm), fun a ha => (hb.frozen ha).trans (h.frozen a ha), fun k hk hm => (hb.block k hk).trans (h.block k hk hm)⟩
theorem RdP.keep {w w' : World} {b k n : Nat} {s : ByteArray} (h : RdP w b s k) (hb : Below n w w') (hn : b < n) : RdP w' b s k :=
  ⟨by rw [hb.cell (p := ⟨b, 0, none⟩) hn]; exact h.c0, by rw [hb.cell (p := ⟨b, 1, none⟩) hn]; exact h.c1, fun i => by rw [hb.frozen (p := ⟨b, i, none⟩) hn]; exact h.warm i⟩
/-- the frame of a call of node: the reader b, the result's box xb, the box yb of the type, which has the name nm and the types l so far -/
structure Nd (w wr : World) (b yb : Nat) (s : ByteArray) (k : Nat) (nm : ByteArray) (v : Value) (R : List Rw) (l : List Tp) : Prop where
  but : But (inB b) w wr
  rd : RdP wr b s k
  res : wr.heap[w.heap.size]? = some (.cells #[.string ⟨#[]⟩, .slice none 0 0] tpT (0, 0))
  box : wr.heap[yb]? = some (.cells #[.string nm, v] tpT (0, 0))
  row : TRk wr (yb + 1) (fun j => yb + 1 ≤ j) v R l
  yx : w.heap.size < yb
  bx : b < w.heap.size
theorem TRk.butB {w w' : World} {base b : Nat} {K : Nat → Prop} {v : Value} {R : List Rw} {l : List Tp} (h : TRk w base K v R l) (hb : But (inB b) w w') (hlt : b < base) (hK : ∀ j, K j → j ≠ b) : TRk w' base K v R l := by
  refine ⟨World.ownsRow.kept h.own ⟨hb.os, hb.tape, hb.output, hb.size, fun k hk hn => hb.block k hk (fun a ha q => hn (by rw [← ha, q]))⟩ (.inr (fun e => ?_) : v.ownBlock = none ∨ v.ownBlock ≠ some b), h.len, fun i h1 h2 => (h.at_ i h1 h2).but hb (fun a q k => hK _ k.1 q)⟩
  have := (World.ownsRow.lt h.own b e).1
  omega
/-- on after something that changed the reader alone -/
theorem Nd.on {w wr w2 : World} {b yb k k2 : Nat} {s s2 nm : ByteArray} {v : Value} {R : List Rw} {l : List Tp} (h : Nd w wr b yb s k nm v R l) (hb : But (inB b) wr w2) (hr : RdP w2 b s2 k2) : Nd w w2 b yb s2 k2 nm v R l := by
  have h1 := h.yx
  have h2 := h.bx
  exact ⟨h.but.trans hb, hr, hb.block_ne (k := w.heap.size) (by omega) h.res, hb.block_ne (k := yb) (by omega) h.box, h.row.butB hb (by omega) (fun j hj => by omega), h.yx, h.bx⟩
/-- a store into the reader -/
theorem Nd.set {w wr : World} {b yb k : Nat} {s nm : ByteArray} {v : Value} {R : List Rw} {l : List Tp} (h : Nd w wr b yb s k nm v R l) (u : ByteArray) : Nd w (wr.setCell ⟨b, 0, none⟩ (.string u)) b yb u k nm v R l := h.on (But.ofSet _ _ _) (h.rd.set u)
theorem RdP.num {w : World} {b k : Nat} {s : ByteArray} (h : RdP w b s k) (m : Nat) : RdP (w.setCell ⟨b, 1, none⟩ (.int .i64 (m : Int))) b s m := by
  obtain ⟨x0, x1, f⟩ := h
  refine ⟨?_, World.cell?_setCell_same w _ _ (by rw [x1]), fun i => by rw [World.frozen?_setCell]; exact f i⟩
  rw [World.cell?_setCell_other _ _ _ _ (fun e => by injection e with _ e _; cases e)]
  exact x0
theorem Nd.num {w wr : World} {b yb k : Nat} {s nm : ByteArray} {v : Value} {R : List Rw} {l : List Tp} (h : Nd w wr b yb s k nm v R l) (m : Nat) : Nd w (wr.setCell ⟨b, 1, none⟩ (.int .i64 (m : Int))) b yb s m nm v R l := h.on (But.ofSet _ _ _) (h.rd.num m)
theorem Nd.start {w w2 : World} {b k : Nat} {s nm : ByteArray} (hb : But (inB b) (w.alloc (.cells #[.string ⟨#[]⟩, .slice none 0 0] tpT)) w2) (hr : RdP w2 b s k) (hlt : b < w.heap.size) :
    Nd w (w2.alloc (.cells #[.string nm, .slice none 0 0] tpT)) b w2.heap.size s k nm (.slice none 0 0) [] [] := by
  have hb0 := below_box w (.cells #[.string ⟨#[]⟩, .slice none 0 0] tpT)
  have hb3 := below_box w2 (.cells #[.string nm, .slice none 0 0] tpT)
  have hs0 : (w.alloc (.cells #[.string ⟨#[]⟩, .slice none 0 0] tpT)).heap.size = w.heap.size + 1 := World.size_alloc _ _
  have hs2 := hb.size
  rw [hs0] at hs2
  have hx := hb.block_ne (k := w.heap.size) (by omega) (heap_alloc_new w (.cells #[.string ⟨#[]⟩, .slice none 0 0] tpT))
  exact ⟨((But.of_below hb0).trans hb).trans (But.of_below hb3), hr.below hb3, (hb3.block w.heap.size (by omega)).trans hx, heap_alloc_new w2 _, TRk.isNil _ _ _, by omega, hlt⟩
theorem Nd.later {w wr w2 : World} {b yb k : Nat} {s nm : ByteArray} {v : Value} {R : List Rw} {l : List Tp} (h : Nd w wr b yb s k nm v R l) (hb : Below wr.heap.size wr w2) : Nd w w2 b yb s k nm v R l := h.on (But.of_below hb) (h.rd.below hb)
theorem Nd.appBox {w wx w2 : World} {b yb k : Nat} {s nm : ByteArray} {v : Value} {R : List Rw} {l : List Tp} (h : Nd w wx b yb s k nm v R l) (hg : wx.grownBy w2 v.ownBlock) : w2.heap[yb]? = some (.cells #[.string nm, v] tpT (0, 0)) := by
  rw [hg.block yb (heap_lt_of h.box) (fun e => by have := (World.ownsRow.lt h.row.own yb e.symm).1; omega)]
  exact h.box
/-- one type more: the append and the store into the box -/
theorem Nd.app {w wx w2 : World} {b yb k : Nat} {s nm : ByteArray} {v v' : Value} {R : List Rw} {l : List Tp} {q : Rw} {t : Tp} (h : Nd w wx b yb s k nm v R l) (hg : wx.grownBy w2 v.ownBlock) (hr : TRk w2 (yb + 1) (fun j => yb + 1 ≤ j) v' (R ++ [q]) (l ++ [t])) :
    Nd w (w2.setCell ⟨yb, 1, none⟩ v') b yb s k nm v' (R ++ [q]) (l ++ [t]) := by
  have h1 := h.yx
  have h2 := h.bx
  have hx := heap_lt_of h.box
  have hne : ∀ j, j ≤ yb → some j ≠ v.ownBlock := fun j hj e => by
    have := (World.ownsRow.lt h.row.own j e.symm).1
    omega
  have hbl : Below (yb + 1) wx w2 := (Below.refl _ _).grown hg (by omega) (fun j e => (World.ownsRow.lt h.row.own j e).1)
  have hk : ∀ j, j < yb → (w2.setCell ⟨yb, 1, none⟩ v').heap[j]? = wx.heap[j]? := fun j hj => (Below.heap_setCell _ _ _ _ (by show j ≠ yb; omega)).trans (hbl.block j (by omega))
  have hb2 : w2.heap[yb]? = some (.cells #[.string nm, v] tpT (0, 0)) := (hbl.block yb (Nat.lt_succ_self _)).trans h.box
  have hbut : ∀ j, j ≠ yb → (w2.setCell ⟨yb, 1, none⟩ v').heap[j]? = w2.heap[j]? := fun j hj => Below.heap_setCell _ _ _ _ hj
  have hyr : some yb ≠ v'.ownBlock := fun e => by have := (World.ownsRow.lt hr.own yb e.symm).1; omega
  have hbelow : Below yb wx (w2.setCell ⟨yb, 1, none⟩ v') := (hbl.mono (Nat.le_succ _)).setCell (p := ⟨yb, 1, none⟩) (Nat.le_refl _) v'
  have hwsz := h.but.size
  refine ⟨h.but.after (hbelow.mono (Nat.le_of_lt h1)), h.rd.keep hbelow (Nat.lt_trans h2 h1), ?_, heap_setCell_same _ _ 1 _ _ v' hb2, ?_, h1, h2⟩
  · rw [hk _ h1]; exact h.res
  · exact ⟨World.ownsRow.kept hr.own ⟨rfl, rfl, rfl, by simp [World.setCell], fun j hj hn => hbut j (fun e => hn (by rw [e]))⟩ (.inr (fun e => hyr e.symm) : v'.ownBlock = none ∨ v'.ownBlock ≠ some yb), hr.len, fun i h1 h2 => (hr.at_ i h1 h2).keepB (fun j hj _ => hbut j (by have := hj.1; omega))⟩
theorem results_cell2T {fn : Func} {t u : Tmp} {ty : TypeId} (h : fn.results = #[.cell t ty, .tmp u]) (tmps : Array Value) (P : Program) (w : World) (a : Addr) (v : Value) (ht : tmps.getD t undef = .pointer (some a)) (hl : (loadVar ty a).run P w = .ok v w) :
    (results fn tmps).run P w = .ok (.tuple #[v, tmps.getD u undef]) w := by
  rw [results_cell_tmp h tmps P w, ht]
  simp [asAddr, hl, Result.andThen]
/-- what is returned: the type so far, out of the result's box -/
structure NdF (w wf : World) (b : Nat) (s : ByteArray) (k : Nat) (nm : ByteArray) (p : Option Addr) (n c : Nat) (l : List Tp) : Prop where
  but : But (inB b) w wf
  rd : RdP wf b s k
  isP : IsP (fun j => w.heap.size ≤ j) wf ⟨nm, p, n, c⟩ (.mk nm l)
  load : (loadVar tpT ⟨w.heap.size, 0, none⟩).run Try.prog wf = .ok (.agg #[.string nm, .slice p n c]) wf
theorem Nd.fin {w wr : World} {b yb k : Nat} {s nm : ByteArray} {p : Option Addr} {n c : Nat} {R : List Rw} {l : List Tp} (h : Nd w wr b yb s k nm (.slice p n c) R l) :
    NdF w ((wr.setCell ⟨w.heap.size, 0, none⟩ (.string nm)).setCell ⟨w.heap.size, 1, none⟩ (.slice p n c)) b s k nm p n c l := by
  have h1 := h.yx
  have h2 := h.bx
  obtain ⟨p', c', e, hp⟩ := h.row.fin (fun j hj => hj)
  injection e with e1 e2 e3
  subst e1; subst e2; subst e3
  have hbl : Below w.heap.size wr ((wr.setCell ⟨w.heap.size, 0, none⟩ (.string nm)).setCell ⟨w.heap.size, 1, none⟩ (.slice p l.length c)) :=
    ((Below.refl _ _).setCell (p := ⟨w.heap.size, 0, none⟩) (Nat.le_refl _) _).setCell (p := ⟨w.heap.size, 1, none⟩) (Nat.le_refl _) _
  have key : ∀ (W : World) (j : Nat) (v : Value), But (fun a => a.block = w.heap.size) W (W.setCell ⟨w.heap.size, j, none⟩ v) := fun W j v => But.setCell W _ v rfl
  have hbut : But (fun a => a.block = w.heap.size) wr ((wr.setCell ⟨w.heap.size, 0, none⟩ (.string nm)).setCell ⟨w.heap.size, 1, none⟩ (.slice p l.length c)) := (key _ _ _).trans (key _ _ _)
  refine ⟨h.but.after hbl, h.rd.keep hbl h2, ?_, load_tp _ _ _ _ _ _ (box_store h.res nm p l.length c)⟩
  exact IsP.node nm ((hp.but hbut (fun a e k => by have e' : a.block = w.heap.size := e; omega)).mono (fun j hj => by omega))
/-- what node gives -/
def NodeRet (f : Nat) (s : ByteArray) (b k : Nat) (w : World) (e : Ending) (w' : World) : Prop :=
  (∃ (q : Rw) (t : Tp) (s' : ByteArray), e = .returned (.tuple #[.agg #[.string q.name, .slice q.p q.n q.cap], .bool true]) ∧ parT f s.data.toList = some (t, s'.data.toList) ∧ k + sizeP t ≤ 20000 ∧ s'.size < s.size ∧ IsP (fun j => w.heap.size ≤ j) w' q t ∧ RdP w' b s' (k + sizeP t) ∧ But (inB b) w w') ∨
  (∃ (q : Rw) (s' : ByteArray) (k' : Nat), e = .returned (.tuple #[.agg #[.string q.name, .slice q.p q.n q.cap], .bool false]) ∧ (∀ t r, parT f s.data.toList = some (t, r) → 20000 < k + sizeP t) ∧ RdP w' b s' k' ∧ But (inB b) w w')
def NodeC (f : Nat) : Prop := ∀ (s : ByteArray) (b k : Nat) (w : World), RdP w b s k → s.size ≤ 1000000000 → s.size < f → k ≤ 20000 →
  Calls Try.prog 43 #[.pointer (some ⟨b, 0, none⟩)] w (NodeRet f s b k w)
theorem NdF.no {f : Nat} {s s' nm : ByteArray} {b k k' : Nat} {p : Option Addr} {n c : Nat} {l : List Tp} {w wf : World} (h : NdF w wf b s' k' nm p n c l) (hn : ∀ t r, parT f s.data.toList = some (t, r) → 20000 < k + sizeP t) :
    NodeRet f s b k w (.returned (.tuple #[.agg #[.string nm, .slice p n c], .bool false])) wf := .inr ⟨⟨nm, p, n, c⟩, s', k', rfl, hn, h.rd, h.but⟩
theorem NdF.yes {f : Nat} {s s' nm : ByteArray} {b k k' : Nat} {p : Option Addr} {n c : Nat} {l : List Tp} {w wf : World} (h : NdF w wf b s' k' nm p n c l) (ht : parT f s.data.toList = some (.mk nm l, s'.data.toList)) (hk : k' = k + sizeP (.mk nm l)) (hk2 : k' ≤ 20000) (hs : s'.size < s.size) :
    NodeRet f s b k w (.returned (.tuple #[.agg #[.string nm, .slice p n c], .bool true])) wf := .inl ⟨⟨nm, p, n, c⟩, .mk nm l, s', rfl, ht, by omega, hs, h.isP, by rw [← hk]; exact h.rd, h.but⟩
/-! the first byte of what is left -/
theorem begins_cons {c : UInt8} {s : ByteArray} (h : begins c s = true) : s.data.toList = c :: (cutM c s).data.toList := by
  obtain ⟨h0, h1⟩ := begins_yes h
  unfold cutM
  rw [if_pos h]
  unfold restM
  rw [extract_dataT, List.take_of_length_le (by rw [List.length_drop, data_len]; omega)]
  have h2 : s.data.toList[0]'(by rw [data_len]; exact h0) = c := by rw [← h1]; simp [ByteArray.getElem_eq_getElem_data]
  rw [← h2]
  exact List.drop_eq_getElem_cons (i := 0) (by rw [data_len]; exact h0)
theorem begins_not {c : UInt8} {s : ByteArray} (h : ¬ begins c s = true) : cutM c s = s ∧ s.data.toList.head? ≠ some c := by
  refine ⟨if_neg h, fun e => ?_⟩
  cases hl : s.data.toList with
  | nil => rw [hl] at e; cases e
  | cons d l =>
    rw [hl] at e
    injection e with e
    subst e
    have h0 : 0 < s.size := by rw [← data_len, hl]; simp
    refine begins_no h h0 ?_
    have h2 : s.data.toList[0]'(by rw [data_len]; exact h0) = s[0] := by simp [ByteArray.getElem_eq_getElem_data]
    rw [← h2]
    simp [hl]
theorem cutM_size (c : UInt8) (s : ByteArray) : (cutM c s).size ≤ s.size := by
  unfold cutM restM
  split
  · rw [ByteArray.size_extract]; omega
  · exact Nat.le_refl _
theorem begins_size {c : UInt8} {s : ByteArray} (h : begins c s = true) : (cutM c s).size + 1 = s.size := by
  have := congrArg List.length (begins_cons h)
  simpa [data_len] using this.symm
theorem bytes_eq {s : ByteArray} {l : List UInt8} (h : s.data.toList = l) : (⟨l.toArray⟩ : ByteArray) = s := by
  subst h
  rfl
/-- how much is left -/
def rdSz (b : Nat) (w : World) : Nat := match w.cell? ⟨b, 0, none⟩ with | some (.string s) => s.size | _ => 0
theorem RdP.sz {w : World} {b k : Nat} {s : ByteArray} (h : RdP w b s k) : rdSz b w = s.size := by unfold rdSz; rw [h.c0]
theorem way_no {f : Nat} {s nm q : ByteArray} {r : List UInt8} {l : List Tp} {k m : Nat} (hT : parT (f + 1) s.data.toList = (parL (parT f) (q.data.toList.length + 1) q.data.toList).map (fun x => (.mk nm x.1, x.2))) (hW : Way (parT f) q.data.toList l r) (hm : m = k + 1 + sizesP l) (hn : ∀ t r2, parT f r = some (t, r2) → 20000 < m + sizeP t) :
    ∀ t r, parT (f + 1) s.data.toList = some (t, r) → 20000 < k + sizeP t := by
  intro t r3 e
  rw [hT] at e
  cases hL : parL (parT f) (q.data.toList.length + 1) q.data.toList with
  | none => rw [hL] at e; cases e
  | some x =>
    obtain ⟨l2, r4⟩ := x
    rw [hL] at e
    simp only [Option.map_some, Option.some.injEq, Prod.mk.injEq] at e
    obtain ⟨rfl, -⟩ := e
    have := hW.no hn hL
    rw [sizeP_mk2]
    omega
theorem way_bad {f : Nat} {s nm q s2 : ByteArray} {r : List UInt8} {l : List Tp} {t1 : Tp} {k : Nat} (hT : parT (f + 1) s.data.toList = (parL (parT f) (q.data.toList.length + 1) q.data.toList).map (fun x => (.mk nm x.1, x.2))) (hW : Way (parT f) q.data.toList l r) (hp : parT f r = some (t1, s2.data.toList)) (h1 : ¬ begins 44 s2 = true) (h2 : ¬ begins 62 s2 = true) :
    ∀ t r, parT (f + 1) s.data.toList = some (t, r) → 20000 < k + sizeP t := by
  intro t r3 e
  rw [hT, hW.bad hp (begins_not h1).2 (begins_not h2).2] at e
  cases e
theorem way_yes {f : Nat} {s nm q s2 : ByteArray} {r : List UInt8} {l : List Tp} {t1 : Tp} (hT : parT (f + 1) s.data.toList = (parL (parT f) (q.data.toList.length + 1) q.data.toList).map (fun x => (.mk nm x.1, x.2))) (hW : Way (parT f) q.data.toList l r) (hp : parT f r = some (t1, s2.data.toList)) (h2 : begins 62 s2 = true) :
    parT (f + 1) s.data.toList = some (.mk nm (l ++ [t1]), (cutM 62 s2).data.toList) := by
  rw [hT, hW.fin (r2 := (cutM 62 s2).data.toList) (by rw [hp, begins_cons h2])]
  rfl
theorem way_next {f : Nat} {q s1 s2 : ByteArray} {l : List Tp} {t1 : Tp} (hW : Way (parT f) q.data.toList l s1.data.toList) (hp : parT f s1.data.toList = some (t1, s2.data.toList)) (h1 : begins 44 s2 = true) (hz : s2.size < s1.size) : Way (parT f) q.data.toList (l ++ [t1]) (cutM 44 s2).data.toList :=
  hW.next (by rw [hp, begins_cons h1]) (by rw [data_len, data_len]; have := begins_size h1; omega)
theorem RdP.drew {w : World} {b k : Nat} {s : ByteArray} (h : RdP w b s k) : RdP w.drew b s k := ⟨h.c0, h.c1, h.warm⟩
theorem NdF.drew {w wf : World} {b k : Nat} {s nm : ByteArray} {p : Option Addr} {n c : Nat} {l : List Tp} (h : NdF w wf b s k nm p n c l) (hx : wf.heap[w.heap.size]? = some (.cells #[.string nm, .slice p n c] tpT (0, 0))) : NdF w wf.drew b s k nm p n c l :=
  ⟨h.but.trans (But.drew _), h.rd.drew, h.isP.keepB (fun _ _ _ => rfl), load_tp _ _ _ _ _ _ hx⟩
theorem Nd.finDrew {w wr : World} {b yb k : Nat} {s nm : ByteArray} {p : Option Addr} {n c : Nat} {R : List Rw} {l : List Tp} (h : Nd w wr b yb s k nm (.slice p n c) R l) :
    NdF w ((wr.setCell ⟨w.heap.size, 0, none⟩ (.string nm)).setCell ⟨w.heap.size, 1, none⟩ (.slice p n c)).drew b s k nm p n c l := h.fin.drew (box_store h.res nm p n c)
end Go.Proofs.Ytbnnokibjccdaaa
