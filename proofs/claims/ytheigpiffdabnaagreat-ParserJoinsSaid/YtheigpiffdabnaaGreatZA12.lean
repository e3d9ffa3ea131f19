/-
  CONTRACTS: the top rules; the plain functions look at tokens alone.
-/
import Derived.Test.YtheigpiffdabnaaGreatZA11
import Derived.Test.YtheigpiffdabnaaGreatZA2
set_option linter.unusedSimpArgs false
set_option linter.unusedVariables false
namespace Go.Proofs.YtheigpiffdabnaaGreat
open Go Go.RowKit
theorem Lx.tokKind_pos (l : Lx.Bs) : Lx.tokKind l ≠ 0 := by
 unfold Lx.tokKind Lx.kindRun
 repeat' split
 all_goals decide
/-- the last token is the end, and no other one -/
theorem Lx.Scan.ends {l : Lx.Bs} {a : Nat} {T : List Lx.Tok} (h : Lx.Scan l a T) : ∃ (D : List Lx.Tok) (e : Int), T = D ++ [⟨0, ByteArray.empty, e⟩] ∧ ∀ t ∈ D, t.kind ≠ 0 ∧ t.text.size ≠ 0 := by
 induction h with
 | fin a => exact ⟨[], a, rfl, fun t ht => by cases ht⟩
 | blank c l a T hb h ih => exact ih
 | comm c l a T hb hc h ih => exact ih
 | tok c l a T hb hc h ih =>
  obtain ⟨D, e, rfl, hD⟩ := ih
  refine ⟨Lx.tokOf (c :: l) a :: D, e, rfl, fun t ht => ?_⟩
  rcases List.mem_cons.1 ht with rfl | ht
  ·refine ⟨Lx.tokKind_pos _, ?_⟩
   have h1 := Lx.tokLen_pos (c :: l)
   have h2 := Lx.tokLen_le c l
   simp only [Lx.tokOf, Lx.mk_size, List.length_take]
   omega
  ·exact hD t ht
/-- tokens as a text has them -/
structure Toks (L : List Lx.Tok) : Prop where
 ends : ∃ (D : List Lx.Tok) (e : Int), L = D ++ [⟨0, ByteArray.empty, e⟩] ∧ ∀ t ∈ D, t.kind ≠ 0 ∧ t.text.size ≠ 0
 few : L.length ≤ 20001
theorem Toks.inner {L : List Lx.Tok} (h : Toks L) {i : Nat} (hi : i < L.length) (hk : (L.getD i tok0).kind ≠ 0 ∨ (L.getD i tok0).text.size ≠ 0) : i + 1 < L.length := by
 obtain ⟨D, e, rfl, hD⟩ := h.ends
 by_cases hd : i < D.length
 ·simp; omega
 ·exfalso
  have : i = D.length := by simp at hi; omega
  subst this
  rw [getD_eq _ _ _ hi, List.getElem_append_right (Nat.le_refl _)] at hk
  simp at hk
theorem Toks.endAt {r : Rdr} (h : Toks r.L) : EndAt r := fun i hi hk => h.inner hi (by
 rcases hk with hk | hk
 ·left; rw [hk]; decide
 ·exact .inr hk)
theorem Toks.intAt {r : Rdr} (h : Toks r.L) : IntAt r := fun i hi hk => h.inner hi (by left; rw [hk]; decide)
/-- whether a token is the end -/
theorem Toks.pos {L : List Lx.Tok} (h : Toks L) : 0 < L.length := by
 obtain ⟨D, e, rfl, hD⟩ := h.ends
 simp
/-- the plain functions look at the tokens alone -/
def core (L : List Lx.Tok) : Rdr := ⟨0, none, 0, L⟩
theorem listP_core (r : Rdr) (sg : ByteArray) (part : PT) : ∀ f, listP r sg part f = listP (core r.L) sg part f
 | 0 => rfl
 | f + 1 => by
  funext i
  unfold listP
  rw [listP_core r sg part f]
  rfl
theorem upToP_core (r : Rdr) (en : ByteArray) (part : PT) : upToP r en part = upToP (core r.L) en part := by
 funext i
 unfold upToP
 rw [listP_core]
 rfl
theorem argsP_core (r : Rdr) (be en : ByteArray) (part : PT) : argsP r be en part = argsP (core r.L) be en part := by
 funext i
 unfold argsP
 rw [upToP_core]
 rfl
theorem typL_core (r : Rdr) (s : Bool) : ∀ d, typL r s d = typL (core r.L) s d
 | 0 => rfl
 | d + 1 => by
  funext i
  unfold typL typAt typTail
  rw [typL_core r s d, listP_core]
  rfl
theorem chainM_core (r : Rdr) (part : PM Tree) (V : List ByteArray) : ∀ f, chainM r part V f = chainM (core r.L) part V f
 | 0 => rfl
 | f + 1 => by
  funext t
  unfold chainM
  rw [chainM_core r part V f]
  rfl
theorem chainP_core (r : Rdr) (part : PM Tree) (V : List ByteArray) : chainP r part V = chainP (core r.L) part V := by
 unfold chainP
 rw [chainM_core]
 rfl
theorem argumentsM_core (r : Rdr) (E : PM Tree) : argumentsM r E = argumentsM (core r.L) E := by
 unfold argumentsM
 rw [upToP_core]
 rfl
theorem stmtsM_core (r : Rdr) (E Bk : PM Tree) : ∀ f, stmtsM r E Bk f = stmtsM (core r.L) E Bk f
 | 0 => rfl
 | f + 1 => by
  funext l
  unfold stmtsM
  rw [stmtsM_core r E Bk f]
  rfl
theorem blockM_core (r : Rdr) (E Bk : PM Tree) : blockM r E Bk = blockM (core r.L) E Bk := by
 unfold blockM
 rw [stmtsM_core]
 rfl
theorem primaryM_core (r : Rdr) (E Bk : PM Tree) : primaryM r E Bk = primaryM (core r.L) E Bk := by
 unfold primaryM namedM constructionM
 rw [argumentsM_core, blockM_core]
 rfl
theorem dotsM_core (r : Rdr) : ∀ f, dotsM r f = dotsM (core r.L) f
 | 0 => rfl
 | f + 1 => by
  funext t
  unfold dotsM
  rw [dotsM_core r f]
  rfl
theorem unaryM_core (r : Rdr) (E Bk U : PM Tree) : unaryM r E Bk U = unaryM (core r.L) E Bk U := by
 unfold unaryM postM
 rw [primaryM_core, dotsM_core]
 rfl
theorem exprM_core (r : Rdr) (E Bk U : PM Tree) : exprM r E Bk U = exprM (core r.L) E Bk U := by
 unfold exprM andM relM sumM prodM
 simp only [chainP_core r, unaryM_core r]
 rfl
theorem subL_core (r : Rdr) : ∀ d, subL r d = subL (core r.L) d
 | 0 => rfl
 | d + 1 => by
  unfold subL
  rw [subL_core r d, exprM_core, blockM_core, unaryM_core]
def itemT (r : Rdr) : PM Tree := itemM r (typL r false 60) (typL r true 60) (subL r 60).E (subL r 60).B
theorem RulePost.item {r : Rdr} {x : Except Nat (Tree × Nat)} {lv : Nat} {s : Bool} {w : World} {e : Ending} {w' : World} (h : RulePost r x lv s w e w') : ItemPost r x lv w e w' := by
 cases x with
 | error k => exact h
 | ok z => obtain ⟨t, j⟩ := z; obtain ⟨q, h1, h2, h3, h4⟩ := h; exact ⟨q, s, h1, h2, h3, h4⟩
theorem item_top (r : Rdr) (h : Toks r.L) (i : Nat) (w : World) (hr : RdAt r i 0 false w) : Calls Tryz.prog 20 #[.pointer (some ⟨r.b, 0, none⟩)] w (ItemPost r (itemT r i) 0 w) := by
 have hE := h.endAt
 obtain ⟨g1, g2, g3⟩ := sub_any r false hE h.intAt 60 0 rfl
 obtain ⟨u1, u2, u3⟩ := ups_sub r 60
 have hT : ∀ s a w1, RdAt r a 0 s w1 → _ := fun s a w1 h1 => typeBelow_any r s hE 60 a 0 w1 h1 rfl
 have uT : ∀ s, Up (typL r s 60) := fun s => typL_mono 60
 have hfun := fun F Ps hF hPs a w1 h1 => function_any r a 0 false F Ps (typL r false 60) (subL r 60).B w1 h1 hE hF hPs (hT false) g2 (up_arg (uT false))
 have hfn := fun a w1 h1 => fn_any r a 0 false (typL r false 60) (subL r 60).B w1 h1 hE (hfun _ _ (fun args w => by kernel_rfl) (fun a w1 h1 => params_any r a 0 false w1 h1 hE))
 have hfu := fun a w1 h1 => fun_any r a 0 false (typL r false 60) (subL r 60).B w1 h1 hE (hfun _ _ (fun args w => by kernel_rfl) (fun a w1 h1 => noParams_any r a 0 false w1 h1))
 exact item_any r i 0 false (typL r false 60) (typL r true 60) (subL r 60).E (subL r 60).B w hr hE
  (fun a w1 h1 => use_any r a 0 false w1 h1 hE) (fun a w1 h1 => pubUse_any r a 0 false w1 h1 hE) (fun a w1 h1 => constant_any r a 0 false _ _ w1 h1 hE (hT false) g1) hfn
  (fun a w1 h1 => record_any r a 0 false _ w1 h1 hE (hT false) (up_arg (uT false))) (fun a w1 h1 => trait_any r a 0 false _ w1 h1 hE (hT true) (uT true)) (fun a w1 h1 => impl_any r a 0 false _ _ w1 h1 hE hfu (hT false) (uT false) u2.up) (fun a w1 h1 => macro_any r a 0 false _ w1 h1 hE g1)
end Go.Proofs.YtheigpiffdabnaaGreat
namespace Go.Proofs.YtheigpiffdabnaaGreat
open Go Go.RowKit
/-- a result's cell, which stands while nothing old changes -/
structure ResB (w W : World) : Prop where
 z : W.heap[w.heap.size]? = some (.cells (ndC ⟨0, ⟨#[]⟩, 0, none, 0, 0⟩) 37 (0, 0))
 be : Below w.heap.size w W
theorem ResB.start (w : World) : ResB w (w.alloc (.cells #[.int .i64 0, .string ⟨#[]⟩, .int .i64 0, .slice none 0 0] 37)) := ⟨heap_alloc_new w _, boxB w _⟩
theorem ResB.on {w W W' : World} (h : ResB w W) (hb : Below W.heap.size W W') : ResB w W' := ⟨by rw [hb.block _ (lt_heap h.z)]; exact h.z, h.be.trans (hb.mono h.be.size)⟩
theorem ResB.cells {w W : World} (h : ResB w W) : W.cell? ⟨w.heap.size, 0, none⟩ = some (.int .i64 0) ∧ W.cell? ⟨w.heap.size, 1, none⟩ = some (.string ⟨#[]⟩) ∧ W.cell? ⟨w.heap.size, 2, none⟩ = some (.int .i64 0) ∧ W.cell? ⟨w.heap.size, 3, none⟩ = some (.slice none 0 0) ∧ ∀ j, W.frozen? ⟨w.heap.size, j, none⟩ = false :=
 ⟨by rw [Lib.cell_of_heap h.z]; rfl, by rw [Lib.cell_of_heap h.z]; rfl, by rw [Lib.cell_of_heap h.z]; rfl, by rw [Lib.cell_of_heap h.z]; rfl, fun j => Lib.frozen_of_heap h.z j⟩
theorem ResB.store {w W : World} {q : Raw} {t : Tree} (h : ResB w W) (ht : IsT (fun b => w.heap.size < b) W q t) :
  ((((W.setCell ⟨w.heap.size, 0, none⟩ (.int .i64 q.kind)).setCell ⟨w.heap.size, 1, none⟩ (.string q.text)).setCell ⟨w.heap.size, 2, none⟩ (.int .i64 q.at_)).setCell ⟨w.heap.size, 3, none⟩ (.slice q.p q.n q.cap)).heap[w.heap.size]? = some (.cells (ndC q) 37 (0, 0)) ∧
  IsT (fun b => w.heap.size ≤ b) ((((W.setCell ⟨w.heap.size, 0, none⟩ (.int .i64 q.kind)).setCell ⟨w.heap.size, 1, none⟩ (.string q.text)).setCell ⟨w.heap.size, 2, none⟩ (.int .i64 q.at_)).setCell ⟨w.heap.size, 3, none⟩ (.slice q.p q.n q.cap)) q t ∧
  Below w.heap.size w ((((W.setCell ⟨w.heap.size, 0, none⟩ (.int .i64 q.kind)).setCell ⟨w.heap.size, 1, none⟩ (.string q.text)).setCell ⟨w.heap.size, 2, none⟩ (.int .i64 q.at_)).setCell ⟨w.heap.size, 3, none⟩ (.slice q.p q.n q.cap)) := by
 have key : ∀ (W : World) (k : Nat) (v : Value), But (fun a => a.block = w.heap.size) W (W.setCell ⟨w.heap.size, k, none⟩ v) := fun W k v => But.setCell W _ v rfl
 have bb := (((key W 0 (.int .i64 q.kind)).trans (key _ 1 (.string q.text))).trans (key _ 2 (.int .i64 q.at_))).trans (key _ 3 (.slice q.p q.n q.cap))
 exact ⟨heap_setCell_same _ _ _ _ _ _ (heap_setCell_same _ _ _ _ _ _ (heap_setCell_same _ _ _ _ _ _ (heap_setCell_same _ _ _ _ _ _ h.z))), (ht.but bb (fun a e q => by rw [e] at q; omega)).mono (fun b hb => Nat.le_of_lt hb), Below.setCell (Below.setCell (Below.setCell (Below.setCell h.be (Nat.le_refl _) _) (Nat.le_refl _) _) (Nat.le_refl _) _) (Nat.le_refl _) _⟩
end Go.Proofs.YtheigpiffdabnaaGreat
namespace Go.Proofs.YtheigpiffdabnaaGreat
open Go Go.RowKit
theorem itemV_no {t : ByteArray} (h : begins t = false) : itemV t = .nilFunc := by
 unfold begins at h
 simp only [Bool.or_eq_false_iff] at h
 obtain ⟨⟨⟨⟨⟨⟨⟨h0, h1⟩, h2⟩, h3⟩, h4⟩, h5⟩, h6⟩, h7⟩ := h
 unfold itemV
 rw [h0, h1, h2, h3, h4, h5, h6, h7]
 simp
theorem itemV_yes {t : ByteArray} (h : begins t = true) : ∃ F : FuncId, itemV t = .func (.func F) #[] #[] := by
 unfold itemV
 by_cases h0 : isB t ⟨#[117, 115, 101]⟩ = true
 ·rw [if_pos h0]; exact ⟨_, rfl⟩
 by_cases h1 : isB t ⟨#[112, 117, 98]⟩ = true
 ·rw [if_neg h0, if_pos h1]; exact ⟨_, rfl⟩
 by_cases h2 : isB t ⟨#[99, 111, 110, 115, 116]⟩ = true
 ·rw [if_neg h0, if_neg h1, if_pos h2]; exact ⟨_, rfl⟩
 by_cases h3 : isB t ⟨#[102, 110]⟩ = true
 ·rw [if_neg h0, if_neg h1, if_neg h2, if_pos h3]; exact ⟨_, rfl⟩
 by_cases h4 : isB t ⟨#[116, 121, 112, 101]⟩ = true
 ·rw [if_neg h0, if_neg h1, if_neg h2, if_neg h3, if_pos h4]; exact ⟨_, rfl⟩
 by_cases h5 : isB t ⟨#[116, 114, 97, 105, 116]⟩ = true
 ·rw [if_neg h0, if_neg h1, if_neg h2, if_neg h3, if_neg h4, if_pos h5]; exact ⟨_, rfl⟩
 by_cases h6 : isB t ⟨#[105, 109, 112, 108]⟩ = true
 ·rw [if_neg h0, if_neg h1, if_neg h2, if_neg h3, if_neg h4, if_neg h5, if_pos h6]; exact ⟨_, rfl⟩
 by_cases h7 : isB t ⟨#[109, 97, 99, 114, 111]⟩ = true
 ·rw [if_neg h0, if_neg h1, if_neg h2, if_neg h3, if_neg h4, if_neg h5, if_neg h6, if_pos h7]; exact ⟨_, rfl⟩
 exfalso
 unfold begins at h
 simp only [Bool.or_eq_true] at h
 rcases h with ((((((h | h) | h) | h) | h) | h) | h) | h
 ·exact h0 h
 ·exact h1 h
 ·exact h2 h
 ·exact h3 h
 ·exact h4 h
 ·exact h5 h
 ·exact h6 h
 ·exact h7 h
theorem eql_func (F : FuncId) (w : World) : (binOp .eql 58 (.func (.func F) #[] #[]) .nilFunc).run Tryz.prog w = .ok (.bool false) w := by kernel_rfl
theorem eql_nilf (w : World) : (binOp .eql 58 .nilFunc .nilFunc).run Tryz.prog w = .ok (.bool true) w := by kernel_rfl
attribute [local go_sem] eql_func eql_nilf
/-- the token at which reading goes on -/
def resP (L : List Lx.Tok) (first : Nat) : Nat → Nat → Nat
 | 0, k => k
 | f + 1, k => if (L.getD k tok0).kind = 0 then k else if k = first ∨ begins (L.getD k tok0).text = false then resP L first f (k + 1) else k
set_option maxRecDepth 100000 in
set_option maxHeartbeats 1000000 in
theorem resume_any (p : Option Addr) (cap first wrong : Nat) (L : List Lx.Tok) (w : World) (hL : SlIs tokEnc w (.slice p L.length cap) L) (hT : Toks L) (hw : wrong < L.length) (hfi : first < L.length) :
  Calls Tryz.prog 21 #[.slice p L.length cap, .int .i64 (first : Int), .int .i64 (wrong : Int)] w fun e w' => ∃ k : Nat, k = resP L first (L.length + 1) wrong ∧ k < L.length ∧ e = .returned (.int .i64 (k : Int)) ∧ w' = w := by
 obtain ⟨_, _, _, hl⟩ := hL.lies
 obtain ⟨b, off, rfl, hc⟩ := hl (by omega)
 have HC := Lib.hid hc
 have HT := Lib.hid hT
 have hfew := hT.few
 clear hL hl hc hT
 go_enter Tryz.func21, Tryz.ntmps21
 go_wp2_with fail
 go_loopw [7] (fun v wr => wr = w ∧ ∃ k f : Nat, v = .int .i64 (k : Int) ∧ k < L.length ∧ L.length ≤ f + k ∧ Hid (resP L first (L.length + 1) wrong = resP L first f k)) (fun v _ => L.length - (intOf v).toNat)
 case atStart => exact ⟨rfl, wrong, L.length + 1, rfl, hw, by omega, rfl⟩
 case round =>
  obtain ⟨rfl, k, f, rfl, hk, hf, HX⟩ := hrel
  obtain ⟨f', rfl⟩ : ∃ f', f = f' + 1 := ⟨f - 1, by omega⟩
  obtain ⟨t0, t1, t2⟩ := tok_cells HC.out k hk
  have hin := fun h => HT.out.inner hk h
  have hki : (0 : Int) ≤ (k : Int) ∧ (k : Int) < (L.length : Int) := by omega
  have hki2 : (k : Int) < (L.length : Int) := by omega
  have hwr : IntKind.i64.wrap ((k : Int) + 1) = ((k + 1 : Nat) : Int) := by rw [IntWalk.i64_in _ (by omega)]; omega
  have HX1 : Hid (resP L first (L.length + 1) wrong = if (L.getD k tok0).kind = 0 then k else if k = first ∨ begins (L.getD k tok0).text = false then resP L first f' (k + 1) else k) := HX
  clear HX t2
  generalize (L.getD k tok0).kind = kd at *
  generalize (L.getD k tok0).text = tx at *
  by_cases h0 : kd = 0
  ·have HX2 : Hid (resP L first (L.length + 1) wrong = k) := by have := HX1.out; rw [if_pos h0] at this; exact this
   subst h0
   clear HX1 hin
   go_wp2_with fail
   go_ret
   exact ⟨k, HX2.out.symm, hk, rfl, rfl⟩
  ·have hkb : (kd == 0) = false := by simpa using h0
   have hk1 : k + 1 < L.length := hin (.inl h0)
   by_cases h1 : k = first
   ·have HX2 : Hid (resP L first (L.length + 1) wrong = resP L first f' (k + 1)) := by have := HX1.out; rw [if_neg h0, if_pos (.inl h1)] at this; exact this
    subst h1
    clear HX1 hin
    go_wp2_with fail
    go_roundw
    case rel => exact ⟨(by first | rfl | trivial), k + 1, f', rfl, hk1, by omega, HX2.out⟩
    case measure => simp [intOf]; omega
   ·have h1i : ¬ ((k : Int) = (first : Int)) := by omega
    have h1b : ((k : Int) == (first : Int)) = false := by simpa using h1i
    cases hb : begins tx
    ·have HX2 : Hid (resP L first (L.length + 1) wrong = resP L first f' (k + 1)) := by have := HX1.out; rw [if_neg h0, if_pos (.inr hb)] at this; exact this
     have hv := itemV_no hb
     have HIT := itemOf_any tx
     rw [hv] at HIT
     have HII := Lib.hid HIT
     clear HX1 hin HIT hv hb
     go_wp2_with fail
     refine (HII.out wr).mono ?_
     rintro e w2 ⟨rfl, rfl⟩
     go_wp2_with fail
     go_roundw
     case rel => exact ⟨(by first | rfl | trivial), k + 1, f', rfl, hk1, by omega, HX2.out⟩
     case measure => simp [intOf]; omega
    ·have HX2 : Hid (resP L first (L.length + 1) wrong = k) := by have := HX1.out; rw [if_neg h0, if_neg (by rw [hb]; simp [h1])] at this; exact this
     obtain ⟨F, hv⟩ := itemV_yes hb
     have HIT := itemOf_any tx
     rw [hv] at HIT
     have HII := Lib.hid HIT
     clear HX1 hin HIT hv hb
     go_wp2_with fail
     refine (HII.out wr).mono ?_
     rintro e w2 ⟨rfl, rfl⟩
     go_wp2_with fail
     go_ret
     exact ⟨k, HX2.out.symm, hk, rfl, rfl⟩
end Go.Proofs.YtheigpiffdabnaaGreat
