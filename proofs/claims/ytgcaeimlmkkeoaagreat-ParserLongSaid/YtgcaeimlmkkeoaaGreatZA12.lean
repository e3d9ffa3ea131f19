/-
  CONTRACTS: the top rules; the plain functions look at tokens alone.
-/
import Derived.Test.YtgcaeimlmkkeoaaGreatZA11
import Derived.Test.YtgcaeimlmkkeoaaGreatZA2
set_option linter.unusedSimpArgs false
set_option linter.unusedVariables false
namespace Go.Proofs.YtgcaeimlmkkeoaaGreat
open Go Go.RowKit
theorem Lx.tokKind_pos (l : Lx.Bs) : Lx.tokKind l ≠ 0 := by
 unfold Lx.tokKind Lx.kindRun
 repeat' split
 all_goals decide
/-- the last token is the end, and no other one -/
theorem Lx.Scan.ends {l : Lx.Bs} {a : Nat} {T : List Lx.Tok} (h : Lx.Scan l a T) : ∃ (D : List Lx.Tok) (e : Int), T = D ++ [⟨0, ByteArray.empty, e⟩] ∧ ∀ t ∈ D, t.kind ≠ 0 ∧ t.text.size ≠ 0 := by
 induction h with
 | fin a => exact ⟨[], a, rfl, fun t ht => by cases ht⟩
 | blank c l a T hb h ih => exact ih
 | comm c l a T hb hc h ih => exact ih
 | tok c l a T hb hc h ih =>
  obtain ⟨D, e, rfl, hD⟩ := ih
  refine ⟨Lx.tokOf (c :: l) a :: D, e, rfl, fun t ht => ?_⟩
  rcases List.mem_cons.1 ht with rfl | ht
  ·refine ⟨Lx.tokKind_pos _, ?_⟩
   have h1 := Lx.tokLen_pos (c :: l)
   have h2 := Lx.tokLen_le c l
   simp only [Lx.tokOf, Lx.mk_size, List.length_take]
   omega
  ·exact hD t ht
/-- tokens as a text has them -/
structure Toks (L : List Lx.Tok) : Prop where
 ends : ∃ (D : List Lx.Tok) (e : Int), L = D ++ [⟨0, ByteArray.empty, e⟩] ∧ ∀ t ∈ D, t.kind ≠ 0 ∧ t.text.size ≠ 0
 few : L.length ≤ 20001
theorem Toks.inner {L : List Lx.Tok} (h : Toks L) {i : Nat} (hi : i < L.length) (hk : (L.getD i tok0).kind ≠ 0 ∨ (L.getD i tok0).text.size ≠ 0) : i + 1 < L.length := by
 obtain ⟨D, e, rfl, hD⟩ := h.ends
 by_cases hd : i < D.length
 ·simp; omega
 ·exfalso
  have : i = D.length := by simp at hi; omega
  subst this
  rw [getD_eq _ _ _ hi, List.getElem_append_right (Nat.le_refl _)] at hk
  simp at hk
theorem Toks.endAt {r : Rdr} (h : Toks r.L) : EndAt r := fun i hi hk => h.inner hi (by
 rcases hk with hk | hk
 ·left; rw [hk]; decide
 ·exact .inr hk)
theorem Toks.intAt {r : Rdr} (h : Toks r.L) : IntAt r := fun i hi hk => h.inner hi (by left; rw [hk]; decide)
/-- whether a token is the end -/
theorem Toks.pos {L : List Lx.Tok} (h : Toks L) : 0 < L.length := by
 obtain ⟨D, e, rfl, hD⟩ := h.ends
 simp
/-- the plain functions look at the tokens alone -/
def core (L : List Lx.Tok) : Rdr := ⟨0, none, 0, L⟩
theorem listP_core (r : Rdr) (sg : ByteArray) (part : PT) : ∀ f, listP r sg part f = listP (core r.L) sg part f
 | 0 => rfl
 | f + 1 => by
  funext i
  unfold listP
  rw [listP_core r sg part f]
  rfl
theorem upToP_core (r : Rdr) (en : ByteArray) (part : PT) : upToP r en part = upToP (core r.L) en part := by
 funext i
 unfold upToP
 rw [listP_core]
 rfl
theorem argsP_core (r : Rdr) (be en : ByteArray) (part : PT) : argsP r be en part = argsP (core r.L) be en part := by
 funext i
 unfold argsP
 rw [upToP_core]
 rfl
theorem typL_core (r : Rdr) (s : Bool) : ∀ d, typL r s d = typL (core r.L) s d
 | 0 => rfl
 | d + 1 => by
  funext i
  unfold typL typAt typTail
  rw [typL_core r s d, listP_core]
  rfl
theorem chainM_core (r : Rdr) (part : PM Tree) (V : List ByteArray) : ∀ f, chainM r part V f = chainM (core r.L) part V f
 | 0 => rfl
 | f + 1 => by
  funext t
  unfold chainM
  rw [chainM_core r part V f]
  rfl
theorem chainP_core (r : Rdr) (part : PM Tree) (V : List ByteArray) : chainP r part V = chainP (core r.L) part V := by
 unfold chainP
 rw [chainM_core]
 rfl
theorem argumentsM_core (r : Rdr) (E : PM Tree) : argumentsM r E = argumentsM (core r.L) E := by
 unfold argumentsM
 rw [upToP_core]
 rfl
theorem stmtsM_core (r : Rdr) (E Bk : PM Tree) : ∀ f, stmtsM r E Bk f = stmtsM (core r.L) E Bk f
 | 0 => rfl
 | f + 1 => by
  funext l
  unfold stmtsM
  rw [stmtsM_core r E Bk f]
  rfl
theorem blockM_core (r : Rdr) (E Bk : PM Tree) : blockM r E Bk = blockM (core r.L) E Bk := by
 unfold blockM
 rw [stmtsM_core]
 rfl
theorem primaryM_core (r : Rdr) (E Bk : PM Tree) : primaryM r E Bk = primaryM (core r.L) E Bk := by
 unfold primaryM namedM constructionM
 rw [argumentsM_core, blockM_core]
 rfl
theorem dotsM_core (r : Rdr) : ∀ f, dotsM r f = dotsM (core r.L) f
 | 0 => rfl
 | f + 1 => by
  funext t
  unfold dotsM
  rw [dotsM_core r f]
  rfl
theorem unaryM_core (r : Rdr) (E Bk U : PM Tree) : unaryM r E Bk U = unaryM (core r.L) E Bk U := by
 unfold unaryM postM
 rw [primaryM_core, dotsM_core]
 rfl
theorem exprM_core (r : Rdr) (E Bk U : PM Tree) : exprM r E Bk U = exprM (core r.L) E Bk U := by
 unfold exprM andM relM sumM prodM
 simp only [chainP_core r, unaryM_core r]
 rfl
theorem subL_core (r : Rdr) : ∀ d, subL r d = subL (core r.L) d
 | 0 => rfl
 | d + 1 => by
  unfold subL
  rw [subL_core r d, exprM_core, blockM_core, unaryM_core]
/-- an expr and a type by themselves, and an item -/
def exprT (r : Rdr) : PM Tree := (subL r 60).E
def typT (r : Rdr) : PM Tree := typL r false 60
def itemT (r : Rdr) : PM Tree := itemM r (typL r false 60) (typL r true 60) (subL r 60).E (subL r 60).B
theorem exprT_core (r : Rdr) : exprT r = exprT (core r.L) := by unfold exprT; rw [subL_core]
theorem typT_core (r : Rdr) : typT r = typT (core r.L) := by unfold typT; rw [typL_core]
theorem RulePost.item {r : Rdr} {x : Except Nat (Tree × Nat)} {lv : Nat} {s : Bool} {w : World} {e : Ending} {w' : World} (h : RulePost r x lv s w e w') : ItemPost r x lv w e w' := by
 cases x with
 | error k => exact h
 | ok z => obtain ⟨t, j⟩ := z; obtain ⟨q, h1, h2, h3, h4⟩ := h; exact ⟨q, s, h1, h2, h3, h4⟩
theorem expr_top (r : Rdr) (h : Toks r.L) (i : Nat) (w : World) (hr : RdAt r i 0 false w) : Calls Tryz.prog 37 #[.pointer (some ⟨r.b, 0, none⟩)] w (ItemPost r (exprT r i) 0 w) :=
 ((sub_any r false h.endAt h.intAt 60 0 rfl).1 i w hr).mono fun _ _ p => p.item
theorem typ_top (r : Rdr) (h : Toks r.L) (i : Nat) (w : World) (hr : RdAt r i 0 false w) : Calls Tryz.prog 40 #[.pointer (some ⟨r.b, 0, none⟩)] w (ItemPost r (typT r i) 0 w) :=
 (typeBelow_any r false h.endAt 60 i 0 w hr rfl).mono fun _ _ p => p.item
theorem item_top (r : Rdr) (h : Toks r.L) (i : Nat) (w : World) (hr : RdAt r i 0 false w) : Calls Tryz.prog 30 #[.pointer (some ⟨r.b, 0, none⟩)] w (ItemPost r (itemT r i) 0 w) := by
 have hE := h.endAt
 obtain ⟨g1, g2, g3⟩ := sub_any r false hE h.intAt 60 0 rfl
 obtain ⟨u1, u2, u3⟩ := ups_sub r 60
 have hT : ∀ s a w1, RdAt r a 0 s w1 → _ := fun s a w1 h1 => typeBelow_any r s hE 60 a 0 w1 h1 rfl
 have uT : ∀ s, Up (typL r s 60) := fun s => typL_mono 60
 have hfun := fun F Ps hF hPs a w1 h1 => function_any r a 0 false F Ps (typL r false 60) (subL r 60).B w1 h1 hE hF hPs (hT false) g2 (up_arg (uT false))
 have hfn := fun a w1 h1 => fn_any r a 0 false (typL r false 60) (subL r 60).B w1 h1 hE (hfun _ _ (fun args w => by kernel_rfl) (fun a w1 h1 => params_any r a 0 false w1 h1 hE))
 have hfu := fun a w1 h1 => fun_any r a 0 false (typL r false 60) (subL r 60).B w1 h1 hE (hfun _ _ (fun args w => by kernel_rfl) (fun a w1 h1 => noParams_any r a 0 false w1 h1))
 exact item_any r i 0 false (typL r false 60) (typL r true 60) (subL r 60).E (subL r 60).B w hr hE
  (fun a w1 h1 => use_any r a 0 false w1 h1 hE) (fun a w1 h1 => pubUse_any r a 0 false w1 h1 hE) (fun a w1 h1 => constant_any r a 0 false _ _ w1 h1 hE (hT false) g1) hfn
  (fun a w1 h1 => record_any r a 0 false _ w1 h1 hE (hT false) (up_arg (uT false))) (fun a w1 h1 => trait_any r a 0 false _ w1 h1 hE (hT true) (uT true)) (fun a w1 h1 => impl_any r a 0 false _ _ w1 h1 hE hfu (hT false) (uT false) u2.up) (fun a w1 h1 => macro_any r a 0 false _ w1 h1 hE g1)
end Go.Proofs.YtgcaeimlmkkeoaaGreat
namespace Go.Proofs.YtgcaeimlmkkeoaaGreat
open Go Go.RowKit
/-- what a whole text is read as -/
def wholeV (L : List Lx.Tok) (p : PM Tree) : Option Tree :=
 if L.length = 0 then none else match p 0 with
  | .error _ => none
  | .ok (t, j) => if (L.getD j tok0).kind = 0 then some t else none
def WholePost (x : Option Tree) (w : World) (e : Ending) (w' : World) : Prop :=
 match x with
 | some t => ∃ q : Raw, e = .returned (.tuple #[.agg (ndC q), .bool true]) ∧ IsT (fun b => w.heap.size ≤ b) w' q t ∧ Below w.heap.size w w'
 | none => e = .returned (.tuple #[.agg (ndC ⟨0, ⟨#[]⟩, 0, none, 0, 0⟩), .bool false]) ∧ Below w.heap.size w w'
theorem results_whole {tmps : Array Value} {w : World} {a0 : Addr} {v0 v1 : Value} (h0 : tmps.getD 4 undef = .pointer (some a0)) (h1 : tmps.getD 5 undef = v1)
  (l0 : (loadVar 40 a0).run Tryz.prog w = .ok v0 w) : (results Tryz.f36 tmps).run Tryz.prog w = .ok (.tuple #[v0, v1]) w := by
 have e0 : tmps[4]?.getD undef = .pointer (some a0) := by simpa using h0
 have e1 : tmps[5]?.getD undef = v1 := by simpa using h1
 simp [results, Tryz.results36, e0, e1, asAddr, l0]
theorem results_expr {tmps : Array Value} {w : World} {a0 : Addr} {v0 v1 : Value} (h0 : tmps.getD 2 undef = .pointer (some a0)) (h1 : tmps.getD 3 undef = v1)
  (l0 : (loadVar 40 a0).run Tryz.prog w = .ok v0 w) : (results Tryz.f16 tmps).run Tryz.prog w = .ok (.tuple #[v0, v1]) w := by
 have e0 : tmps[2]?.getD undef = .pointer (some a0) := by simpa using h0
 have e1 : tmps[3]?.getD undef = v1 := by simpa using h1
 simp [results, Tryz.results16, e0, e1, asAddr, l0]
theorem results_type {tmps : Array Value} {w : World} {a0 : Addr} {v0 v1 : Value} (h0 : tmps.getD 2 undef = .pointer (some a0)) (h1 : tmps.getD 3 undef = v1)
  (l0 : (loadVar 40 a0).run Tryz.prog w = .ok v0 w) : (results Tryz.f18 tmps).run Tryz.prog w = .ok (.tuple #[v0, v1]) w := by
 have e0 : tmps[2]?.getD undef = .pointer (some a0) := by simpa using h0
 have e1 : tmps[3]?.getD undef = v1 := by simpa using h1
 simp [results, Tryz.results18, e0, e1, asAddr, l0]
/-- a result's cell, which stands while nothing old changes -/
structure ResB (w W : World) : Prop where
 z : W.heap[w.heap.size]? = some (.cells (ndC ⟨0, ⟨#[]⟩, 0, none, 0, 0⟩) 40 (0, 0))
 be : Below w.heap.size w W
theorem ResB.start (w : World) : ResB w (w.alloc (.cells #[.int .i64 0, .string ⟨#[]⟩, .int .i64 0, .slice none 0 0] 40)) := ⟨heap_alloc_new w _, boxB w _⟩
theorem ResB.on {w W W' : World} (h : ResB w W) (hb : Below W.heap.size W W') : ResB w W' := ⟨by rw [hb.block _ (lt_heap h.z)]; exact h.z, h.be.trans (hb.mono h.be.size)⟩
theorem ResB.cells {w W : World} (h : ResB w W) : W.cell? ⟨w.heap.size, 0, none⟩ = some (.int .i64 0) ∧ W.cell? ⟨w.heap.size, 1, none⟩ = some (.string ⟨#[]⟩) ∧ W.cell? ⟨w.heap.size, 2, none⟩ = some (.int .i64 0) ∧ W.cell? ⟨w.heap.size, 3, none⟩ = some (.slice none 0 0) ∧ ∀ j, W.frozen? ⟨w.heap.size, j, none⟩ = false :=
 ⟨by rw [Lib.cell_of_heap h.z]; rfl, by rw [Lib.cell_of_heap h.z]; rfl, by rw [Lib.cell_of_heap h.z]; rfl, by rw [Lib.cell_of_heap h.z]; rfl, fun j => Lib.frozen_of_heap h.z j⟩
theorem ResB.store {w W : World} {q : Raw} {t : Tree} (h : ResB w W) (ht : IsT (fun b => w.heap.size < b) W q t) :
  ((((W.setCell ⟨w.heap.size, 0, none⟩ (.int .i64 q.kind)).setCell ⟨w.heap.size, 1, none⟩ (.string q.text)).setCell ⟨w.heap.size, 2, none⟩ (.int .i64 q.at_)).setCell ⟨w.heap.size, 3, none⟩ (.slice q.p q.n q.cap)).heap[w.heap.size]? = some (.cells (ndC q) 40 (0, 0)) ∧
  IsT (fun b => w.heap.size ≤ b) ((((W.setCell ⟨w.heap.size, 0, none⟩ (.int .i64 q.kind)).setCell ⟨w.heap.size, 1, none⟩ (.string q.text)).setCell ⟨w.heap.size, 2, none⟩ (.int .i64 q.at_)).setCell ⟨w.heap.size, 3, none⟩ (.slice q.p q.n q.cap)) q t ∧
  Below w.heap.size w ((((W.setCell ⟨w.heap.size, 0, none⟩ (.int .i64 q.kind)).setCell ⟨w.heap.size, 1, none⟩ (.string q.text)).setCell ⟨w.heap.size, 2, none⟩ (.int .i64 q.at_)).setCell ⟨w.heap.size, 3, none⟩ (.slice q.p q.n q.cap)) := by
 have key : ∀ (W : World) (k : Nat) (v : Value), But (fun a => a.block = w.heap.size) W (W.setCell ⟨w.heap.size, k, none⟩ v) := fun W k v => But.setCell W _ v rfl
 have bb := (((key W 0 (.int .i64 q.kind)).trans (key _ 1 (.string q.text))).trans (key _ 2 (.int .i64 q.at_))).trans (key _ 3 (.slice q.p q.n q.cap))
 exact ⟨heap_setCell_same _ _ _ _ _ _ (heap_setCell_same _ _ _ _ _ _ (heap_setCell_same _ _ _ _ _ _ (heap_setCell_same _ _ _ _ _ _ h.z))), (ht.but bb (fun a e q => by rw [e] at q; omega)).mono (fun b hb => Nat.le_of_lt hb), Below.setCell (Below.setCell (Below.setCell (Below.setCell h.be (Nat.le_refl _) _) (Nat.le_refl _) _) (Nat.le_refl _) _) (Nat.le_refl _) _⟩
set_option maxRecDepth 100000 in
set_option maxHeartbeats 1000000 in
theorem whole_any (s : ByteArray) (L : List Lx.Tok) (F : FuncId) (p : PM Tree) (w : World) (hT : L = [] ∨ Toks L)
  (HTOK : ∀ w, Calls Tryz.prog 28 #[.string s] w fun e w' => ∃ v, e = .returned v ∧ SlIs tokEnc w' v L ∧ Below w.heap.size w w')
  (hF : ∀ args w, (callFunc F args).run Tryz.prog w = .ok (.enter F args) w) (HP : ∀ r : Rdr, r.L = L → Toks r.L → ∀ w, RdAt r 0 0 false w → Calls Tryz.prog F #[.pointer (some ⟨r.b, 0, none⟩)] w (ItemPost r (p 0) 0 w)) :
  Calls Tryz.prog 36 #[.string s, .func (.func F) #[] #[]] w (WholePost (wholeV L p) w) := by
 have HS1 := Lib.hid (ResB.start w)
 have HTT := Lib.hid hT
 have HTO := Lib.hid HTOK
 have HPP := Lib.hid HP
 generalize hXX : wholeV L p = X
 have HX := Lib.hid hXX
 clear hT HTOK HP hXX
 go_enter Tryz.func36, Tryz.ntmps36
 go_wp2_with fail
 generalize w.alloc (.cells #[.int .i64 0, .string ⟨#[]⟩, .int .i64 0, .slice none 0 0] 40) = w1 at *
 refine (HTO.out w1).mono ?_
 rintro e w2 ⟨v, rfl, hsl, hb⟩
 obtain ⟨tp, cap, rfl, hlc, hcm, hlies⟩ := hsl
 have HS2 := Lib.hid (HS1.out.on hb)
 have HSL : Hid (SlIs tokEnc w2 (.slice tp L.length cap) L) := ⟨tp, cap, rfl, hlc, hcm, hlies⟩
 have HLI := Lib.hid hlies
 clear hb hlc hcm hlies HTO HS1
 by_cases h0 : L.length = 0
 ·have hV : wholeV L p = none := by unfold wholeV; rw [if_pos h0]
  have hX := HX.out
  rw [hV] at hX
  subst hX
  have h0i : ((L.length : Nat) : Int) = 0 := by omega
  have HW := Lib.hid (HS2.out.store (q := ⟨0, ⟨#[]⟩, 0, none, 0, 0⟩) (IsT.leaf _ _ 0 ⟨#[]⟩ 0))
  obtain ⟨d0, d1, d2, d3, f0⟩ := HS2.out.cells
  clear HSL HLI
  go_wp2_with fail
  obtain ⟨hcell, hist, hbe⟩ := HW.out
  exact bodyPost_ret (results_whole rfl rfl (load_node _ _ ⟨0, ⟨#[]⟩, 0, none, 0, 0⟩ hcell)) rfl ⟨rfl, hbe⟩
 ·have hTk : Toks L := by
   rcases HTT.out with h | h
   ·rw [h] at h0; exact absurd rfl h0
   ·exact h
  have HTK := Lib.hid hTk
  have h0i : ¬ ((L.length : Nat) : Int) = 0 := by omega
  have h0b : (((L.length : Nat) : Int) == 0) = false := by simpa using h0i
  have hpos : 0 < L.length := by omega
  obtain ⟨b, off, rfl, hcl⟩ := HLI.out hpos
  have hbl : b < w2.heap.size := World.block_lt_of_cell? w2 _ (hcl.elem 0 hpos 0 (by decide) _ rfl)
  have HCL := Lib.hid hcl
  have HBL := Lib.hid hbl
  clear hTk hcl hbl HLI
  go_wp2_with fail
  refine (read_any (some ⟨b, off, none⟩) cap 0 L F (p 0) w2 HSL.out (fun b' o e => by simp only [Option.some.injEq] at e; injection e with e1 _ _; subst e1; exact HBL.out) hpos HTK.out.few hF (fun w3 h3 => HPP.out ⟨w2.heap.size + 1 + 1, some ⟨b, off, none⟩, cap, L⟩ rfl HTK.out w3 h3)).mono ?_
  intro e w3 hp
  match hx : p 0, hp with
  | .error k, hp =>
   obtain ⟨rfl, hb⟩ := hp
   have hV : wholeV L p = none := by unfold wholeV; rw [if_neg h0, hx]
   have hX := HX.out
   rw [hV] at hX
   subst hX
   have HS3 := Lib.hid (HS2.out.on hb)
   have HS4 : Hid (ResB w (w3.alloc (.cells #[.int .i64 0, .string ⟨#[]⟩, .int .i64 0, .slice none 0 0] 40))) := HS3.out.on (boxB w3 _)
   have HW := Lib.hid (HS4.out.store (q := ⟨0, ⟨#[]⟩, 0, none, 0, 0⟩) (IsT.leaf _ _ 0 ⟨#[]⟩ 0))
   obtain ⟨d0, d1, d2, d3, f0⟩ := HS4.out.cells
   clear hb hp HSL HCL HBL HS3
   unfold ndC
   go_wp2_with fail
   obtain ⟨hcell, hist, hbe⟩ := HW.out
   exact bodyPost_ret (results_whole rfl rfl (load_node _ _ ⟨0, ⟨#[]⟩, 0, none, 0, 0⟩ hcell)) rfl ⟨rfl, hbe⟩
  | .ok (t, j), hp =>
   obtain ⟨q, rfl, ht, hj, hb⟩ := hp
   have hj' : j < L.length := hj
   have HS3 := Lib.hid (HS2.out.on hb)
   have hlt := lt_heap HS2.out.z
   have hb4 := boxB w3 (.cells #[.int .i64 q.kind, .string q.text, .int .i64 q.at_, .slice q.p q.n q.cap] 40)
   have HS4 := Lib.hid (HS3.out.on hb4)
   have HT4 : Hid (IsT (fun b => w.heap.size < b) (w3.alloc (.cells #[.int .i64 q.kind, .string q.text, .int .i64 q.at_, .slice q.p q.n q.cap] 40)) q t) := (ht.later hb4).mono (fun b hb => by omega)
   have HQ4 : Hid ((w3.alloc (.cells #[.int .i64 q.kind, .string q.text, .int .i64 q.at_, .slice q.p q.n q.cap] 40)).heap[w3.heap.size]? = some (.cells (ndC q) 40 (0, 0))) := heap_alloc_new w3 _
   have HCL4 : Hid (CellsAt (w3.alloc (.cells #[.int .i64 q.kind, .string q.text, .int .i64 q.at_, .slice q.p q.n q.cap] 40)) b off (tokEnc.all L)) := (HCL.out.below hb).below hb4
   clear hb ht hb4 hp HS3 HCL HSL HS2 hj
   have hji : ((j : Nat) : Int) < ((L.length : Nat) : Int) := by omega
   obtain ⟨kd, hkd⟩ : ∃ kd, (L.getD j tok0).kind = kd := ⟨_, rfl⟩
   have hc0 := (tok_cells HCL4.out j hj').1
   rw [hkd] at hc0
   have HKD := Lib.hid hkd
   clear hkd
   obtain ⟨d0, d1, d2, d3, f0⟩ := HS4.out.cells
   have b0 : (w3.alloc (.cells #[.int .i64 q.kind, .string q.text, .int .i64 q.at_, .slice q.p q.n q.cap] 40)).cell? ⟨w3.heap.size, 0, none⟩ = some (.int .i64 q.kind) := by rw [Lib.cell_of_heap HQ4.out]; rfl
   have b1 : (w3.alloc (.cells #[.int .i64 q.kind, .string q.text, .int .i64 q.at_, .slice q.p q.n q.cap] 40)).cell? ⟨w3.heap.size, 1, none⟩ = some (.string q.text) := by rw [Lib.cell_of_heap HQ4.out]; rfl
   have b2 : (w3.alloc (.cells #[.int .i64 q.kind, .string q.text, .int .i64 q.at_, .slice q.p q.n q.cap] 40)).cell? ⟨w3.heap.size, 2, none⟩ = some (.int .i64 q.at_) := by rw [Lib.cell_of_heap HQ4.out]; rfl
   have b3 : (w3.alloc (.cells #[.int .i64 q.kind, .string q.text, .int .i64 q.at_, .slice q.p q.n q.cap] 40)).cell? ⟨w3.heap.size, 3, none⟩ = some (.slice q.p q.n q.cap) := by rw [Lib.cell_of_heap HQ4.out]; rfl
   by_cases hk : kd = 0
   ·have hV : wholeV L p = some t := by unfold wholeV; rw [if_neg h0, hx]; show (if (L.getD j tok0).kind = 0 then some t else none) = _; rw [HKD.out, if_pos hk]
    have hX := HX.out
    rw [hV] at hX
    subst hX
    have HW := Lib.hid (HS4.out.store HT4.out)
    subst hk
    unfold ndC
    go_wp2_with fail
    obtain ⟨hcell, hist, hbe⟩ := HW.out
    exact bodyPost_ret (results_whole rfl rfl (load_node _ _ q hcell)) rfl ⟨q, rfl, hist, hbe⟩
   ·have hV : wholeV L p = none := by unfold wholeV; rw [if_neg h0, hx]; show (if (L.getD j tok0).kind = 0 then some t else none) = _; rw [HKD.out, if_neg hk]
    have hX := HX.out
    rw [hV] at hX
    subst hX
    have hkb : (kd == 0) = false := by simpa using hk
    have HW := Lib.hid (HS4.out.store (q := ⟨0, ⟨#[]⟩, 0, none, 0, 0⟩) (IsT.leaf _ _ 0 ⟨#[]⟩ 0))
    unfold ndC
    go_wp2_with fail
    obtain ⟨hcell, hist, hbe⟩ := HW.out
    exact bodyPost_ret (results_whole rfl rfl (load_node _ _ ⟨0, ⟨#[]⟩, 0, none, 0, 0⟩ hcell)) rfl ⟨rfl, hbe⟩
set_option maxRecDepth 100000 in
set_option maxHeartbeats 1000000 in
theorem Expr_any (s : ByteArray) (L : List Lx.Tok) (w : World) (hT : L = [] ∨ Toks L)
  (HTOK : ∀ w, Calls Tryz.prog 28 #[.string s] w fun e w' => ∃ v, e = .returned v ∧ SlIs tokEnc w' v L ∧ Below w.heap.size w w') :
  Calls Tryz.prog 16 #[.string s] w (WholePost (wholeV L (exprT (core L))) w) := by
 have HS1 := Lib.hid (ResB.start w)
 have HWH := fun w => whole_any s L 37 (exprT (core L)) w hT HTOK (fun args w => by kernel_rfl) (fun r hr ht w h => by
  have hh := expr_top r ht 0 w h
  rw [exprT_core, hr] at hh
  exact hh)
 have HWW := Lib.hid HWH
 generalize wholeV L (exprT (core L)) = X at *
 clear hT HTOK HWH
 go_enter Tryz.func16, Tryz.ntmps16
 go_wp2_with fail
 generalize w.alloc (.cells #[.int .i64 0, .string ⟨#[]⟩, .int .i64 0, .slice none 0 0] 40) = w1 at *
 refine (HWW.out w1).mono ?_
 intro e w2 hp
 match X, hp with
 | none, hp =>
  obtain ⟨rfl, hb⟩ := hp
  have HS2 := Lib.hid (HS1.out.on hb)
  have HW := Lib.hid (HS2.out.store (q := ⟨0, ⟨#[]⟩, 0, none, 0, 0⟩) (IsT.leaf _ _ 0 ⟨#[]⟩ 0))
  obtain ⟨d0, d1, d2, d3, f0⟩ := HS2.out.cells
  clear hb hp
  unfold ndC
  go_wp2_with fail
  obtain ⟨hcell, hist, hbe⟩ := HW.out
  exact bodyPost_ret (results_expr rfl rfl (load_node _ _ ⟨0, ⟨#[]⟩, 0, none, 0, 0⟩ hcell)) rfl ⟨rfl, hbe⟩
 | some t, hp =>
  obtain ⟨q, rfl, ht, hb⟩ := hp
  have HS2 := Lib.hid (HS1.out.on hb)
  have hlt := lt_heap HS1.out.z
  have HW := Lib.hid (HS2.out.store (ht.mono (A' := fun b => w.heap.size < b) (fun b hb => by omega)))
  obtain ⟨d0, d1, d2, d3, f0⟩ := HS2.out.cells
  clear hb ht hp
  unfold ndC
  go_wp2_with fail
  obtain ⟨hcell, hist, hbe⟩ := HW.out
  exact bodyPost_ret (results_expr rfl rfl (load_node _ _ q hcell)) rfl ⟨q, rfl, hist, hbe⟩
set_option maxRecDepth 100000 in
set_option maxHeartbeats 1000000 in
theorem Type_any (s : ByteArray) (L : List Lx.Tok) (w : World) (hT : L = [] ∨ Toks L)
  (HTOK : ∀ w, Calls Tryz.prog 28 #[.string s] w fun e w' => ∃ v, e = .returned v ∧ SlIs tokEnc w' v L ∧ Below w.heap.size w w') :
  Calls Tryz.prog 18 #[.string s] w (WholePost (wholeV L (typT (core L))) w) := by
 have HS1 := Lib.hid (ResB.start w)
 have HWH := fun w => whole_any s L 40 (typT (core L)) w hT HTOK (fun args w => by kernel_rfl) (fun r hr ht w h => by
  have hh := typ_top r ht 0 w h
  rw [typT_core, hr] at hh
  exact hh)
 have HWW := Lib.hid HWH
 generalize wholeV L (typT (core L)) = X at *
 clear hT HTOK HWH
 go_enter Tryz.func18, Tryz.ntmps18
 go_wp2_with fail
 generalize w.alloc (.cells #[.int .i64 0, .string ⟨#[]⟩, .int .i64 0, .slice none 0 0] 40) = w1 at *
 refine (HWW.out w1).mono ?_
 intro e w2 hp
 match X, hp with
 | none, hp =>
  obtain ⟨rfl, hb⟩ := hp
  have HS2 := Lib.hid (HS1.out.on hb)
  have HW := Lib.hid (HS2.out.store (q := ⟨0, ⟨#[]⟩, 0, none, 0, 0⟩) (IsT.leaf _ _ 0 ⟨#[]⟩ 0))
  obtain ⟨d0, d1, d2, d3, f0⟩ := HS2.out.cells
  clear hb hp
  unfold ndC
  go_wp2_with fail
  obtain ⟨hcell, hist, hbe⟩ := HW.out
  exact bodyPost_ret (results_type rfl rfl (load_node _ _ ⟨0, ⟨#[]⟩, 0, none, 0, 0⟩ hcell)) rfl ⟨rfl, hbe⟩
 | some t, hp =>
  obtain ⟨q, rfl, ht, hb⟩ := hp
  have HS2 := Lib.hid (HS1.out.on hb)
  have hlt := lt_heap HS1.out.z
  have HW := Lib.hid (HS2.out.store (ht.mono (A' := fun b => w.heap.size < b) (fun b hb => by omega)))
  obtain ⟨d0, d1, d2, d3, f0⟩ := HS2.out.cells
  clear hb ht hp
  unfold ndC
  go_wp2_with fail
  obtain ⟨hcell, hist, hbe⟩ := HW.out
  exact bodyPost_ret (results_type rfl rfl (load_node _ _ q hcell)) rfl ⟨q, rfl, hist, hbe⟩
end Go.Proofs.YtgcaeimlmkkeoaaGreat
namespace Go.Proofs.YtgcaeimlmkkeoaaGreat
open Go Go.RowKit
theorem itemV_no {t : ByteArray} (h : begins t = false) : itemV t = .nilFunc := by
 unfold begins at h
 simp only [Bool.or_eq_false_iff] at h
 obtain ⟨⟨⟨⟨⟨⟨⟨h0, h1⟩, h2⟩, h3⟩, h4⟩, h5⟩, h6⟩, h7⟩ := h
 unfold itemV
 rw [h0, h1, h2, h3, h4, h5, h6, h7]
 simp
theorem itemV_yes {t : ByteArray} (h : begins t = true) : ∃ F : FuncId, itemV t = .func (.func F) #[] #[] := by
 unfold itemV
 by_cases h0 : isB t ⟨#[117, 115, 101]⟩ = true
 ·rw [if_pos h0]; exact ⟨_, rfl⟩
 by_cases h1 : isB t ⟨#[112, 117, 98]⟩ = true
 ·rw [if_neg h0, if_pos h1]; exact ⟨_, rfl⟩
 by_cases h2 : isB t ⟨#[99, 111, 110, 115, 116]⟩ = true
 ·rw [if_neg h0, if_neg h1, if_pos h2]; exact ⟨_, rfl⟩
 by_cases h3 : isB t ⟨#[102, 110]⟩ = true
 ·rw [if_neg h0, if_neg h1, if_neg h2, if_pos h3]; exact ⟨_, rfl⟩
 by_cases h4 : isB t ⟨#[116, 121, 112, 101]⟩ = true
 ·rw [if_neg h0, if_neg h1, if_neg h2, if_neg h3, if_pos h4]; exact ⟨_, rfl⟩
 by_cases h5 : isB t ⟨#[116, 114, 97, 105, 116]⟩ = true
 ·rw [if_neg h0, if_neg h1, if_neg h2, if_neg h3, if_neg h4, if_pos h5]; exact ⟨_, rfl⟩
 by_cases h6 : isB t ⟨#[105, 109, 112, 108]⟩ = true
 ·rw [if_neg h0, if_neg h1, if_neg h2, if_neg h3, if_neg h4, if_neg h5, if_pos h6]; exact ⟨_, rfl⟩
 by_cases h7 : isB t ⟨#[109, 97, 99, 114, 111]⟩ = true
 ·rw [if_neg h0, if_neg h1, if_neg h2, if_neg h3, if_neg h4, if_neg h5, if_neg h6, if_pos h7]; exact ⟨_, rfl⟩
 exfalso
 unfold begins at h
 simp only [Bool.or_eq_true] at h
 rcases h with ((((((h | h) | h) | h) | h) | h) | h) | h
 ·exact h0 h
 ·exact h1 h
 ·exact h2 h
 ·exact h3 h
 ·exact h4 h
 ·exact h5 h
 ·exact h6 h
 ·exact h7 h
theorem eql_func (F : FuncId) (w : World) : (binOp .eql 65 (.func (.func F) #[] #[]) .nilFunc).run Tryz.prog w = .ok (.bool false) w := by kernel_rfl
theorem eql_nilf (w : World) : (binOp .eql 65 .nilFunc .nilFunc).run Tryz.prog w = .ok (.bool true) w := by kernel_rfl
attribute [local go_sem] eql_func eql_nilf
/-- the token at which reading goes on -/
def resP (L : List Lx.Tok) (first : Nat) : Nat → Nat → Nat
 | 0, k => k
 | f + 1, k => if (L.getD k tok0).kind = 0 then k else if k = first ∨ begins (L.getD k tok0).text = false then resP L first f (k + 1) else k
set_option maxRecDepth 100000 in
set_option maxHeartbeats 1000000 in
theorem resume_any (p : Option Addr) (cap first wrong : Nat) (L : List Lx.Tok) (w : World) (hL : SlIs tokEnc w (.slice p L.length cap) L) (hT : Toks L) (hw : wrong < L.length) (hfi : first < L.length) :
  Calls Tryz.prog 31 #[.slice p L.length cap, .int .i64 (first : Int), .int .i64 (wrong : Int)] w fun e w' => ∃ k : Nat, k = resP L first (L.length + 1) wrong ∧ k < L.length ∧ e = .returned (.int .i64 (k : Int)) ∧ w' = w := by
 obtain ⟨_, _, _, hl⟩ := hL.lies
 obtain ⟨b, off, rfl, hc⟩ := hl (by omega)
 have HC := Lib.hid hc
 have HT := Lib.hid hT
 have hfew := hT.few
 clear hL hl hc hT
 go_enter Tryz.func31, Tryz.ntmps31
 go_wp2_with fail
 go_loopw [7] (fun v wr => wr = w ∧ ∃ k f : Nat, v = .int .i64 (k : Int) ∧ k < L.length ∧ L.length ≤ f + k ∧ Hid (resP L first (L.length + 1) wrong = resP L first f k)) (fun v _ => L.length - (intOf v).toNat)
 case atStart => exact ⟨rfl, wrong, L.length + 1, rfl, hw, by omega, rfl⟩
 case round =>
  obtain ⟨rfl, k, f, rfl, hk, hf, HX⟩ := hrel
  obtain ⟨f', rfl⟩ : ∃ f', f = f' + 1 := ⟨f - 1, by omega⟩
  obtain ⟨t0, t1, t2⟩ := tok_cells HC.out k hk
  have hin := fun h => HT.out.inner hk h
  have hki : (0 : Int) ≤ (k : Int) ∧ (k : Int) < (L.length : Int) := by omega
  have hki2 : (k : Int) < (L.length : Int) := by omega
  have hwr : IntKind.i64.wrap ((k : Int) + 1) = ((k + 1 : Nat) : Int) := by rw [IntWalk.i64_in _ (by omega)]; omega
  have HX1 : Hid (resP L first (L.length + 1) wrong = if (L.getD k tok0).kind = 0 then k else if k = first ∨ begins (L.getD k tok0).text = false then resP L first f' (k + 1) else k) := HX
  clear HX t2
  generalize (L.getD k tok0).kind = kd at *
  generalize (L.getD k tok0).text = tx at *
  by_cases h0 : kd = 0
  ·have HX2 : Hid (resP L first (L.length + 1) wrong = k) := by have := HX1.out; rw [if_pos h0] at this; exact this
   subst h0
   clear HX1 hin
   go_wp2_with fail
   go_ret
   exact ⟨k, HX2.out.symm, hk, rfl, rfl⟩
  ·have hkb : (kd == 0) = false := by simpa using h0
   have hk1 : k + 1 < L.length := hin (.inl h0)
   by_cases h1 : k = first
   ·have HX2 : Hid (resP L first (L.length + 1) wrong = resP L first f' (k + 1)) := by have := HX1.out; rw [if_neg h0, if_pos (.inl h1)] at this; exact this
    subst h1
    clear HX1 hin
    go_wp2_with fail
    go_roundw
    case rel => exact ⟨(by first | rfl | trivial), k + 1, f', rfl, hk1, by omega, HX2.out⟩
    case measure => simp [intOf]; omega
   ·have h1i : ¬ ((k : Int) = (first : Int)) := by omega
    have h1b : ((k : Int) == (first : Int)) = false := by simpa using h1i
    cases hb : begins tx
    ·have HX2 : Hid (resP L first (L.length + 1) wrong = resP L first f' (k + 1)) := by have := HX1.out; rw [if_neg h0, if_pos (.inr hb)] at this; exact this
     have hv := itemV_no hb
     have HIT := itemOf_any tx
     rw [hv] at HIT
     have HII := Lib.hid HIT
     clear HX1 hin HIT hv hb
     go_wp2_with fail
     refine (HII.out wr).mono ?_
     rintro e w2 ⟨rfl, rfl⟩
     go_wp2_with fail
     go_roundw
     case rel => exact ⟨(by first | rfl | trivial), k + 1, f', rfl, hk1, by omega, HX2.out⟩
     case measure => simp [intOf]; omega
    ·have HX2 : Hid (resP L first (L.length + 1) wrong = k) := by have := HX1.out; rw [if_neg h0, if_neg (by rw [hb]; simp [h1])] at this; exact this
     obtain ⟨F, hv⟩ := itemV_yes hb
     have HIT := itemOf_any tx
     rw [hv] at HIT
     have HII := Lib.hid HIT
     clear HX1 hin HIT hv hb
     go_wp2_with fail
     refine (HII.out wr).mono ?_
     rintro e w2 ⟨rfl, rfl⟩
     go_wp2_with fail
     go_ret
     exact ⟨k, HX2.out.symm, hk, rfl, rfl⟩
end Go.Proofs.YtgcaeimlmkkeoaaGreat
