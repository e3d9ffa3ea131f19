/-
  CONTRACT: the reference's reader: what is no item.
-/
import Derived.Test.YtgcaeimlmkkeoaaGreatZR13
import Derived.Test.YtgcaeimlmkkeoaaGreatZR10
import Derived.Test.YtgcaeimlmkkeoaaGreatZR11
import Derived.Test.YtgcaeimlmkkeoaaGreatZR15
import Derived.Test.YtgcaeimlmkkeoaaGreatZR16
import Derived.Test.YtgcaeimlmkkeoaaGreatZR8
import Derived.Test.YtgcaeimlmkkeoaaGreatZA13
import Derived.Test.YtgcaeimlmkkeoaaGreatZR12
set_option linter.unusedSimpArgs false
set_option linter.unusedVariables false
namespace Go.Proofs.YtgcaeimlmkkeoaaGreat
open Go Go.RowKit
set_option maxRecDepth 100000 in
set_option maxHeartbeats 4000000 in
theorem rItem_none (r : Rdr) (i : Nat) (s : Bool)  (w : World) (h : RrAt r (.ok i) s w) (hE : EndAt r) (hK : Known r.L) (n0 : isMark r i ⟨#[117, 115, 101]⟩ = false) (n1 : isMark r i ⟨#[112, 117, 98]⟩ = false) (n2 : isMark r i ⟨#[99, 111, 110, 115, 116]⟩ = false) (n3 : isMark r i ⟨#[102, 110]⟩ = false) (n4 : isMark r i ⟨#[116, 121, 112, 101]⟩ = false) (n5 : isMark r i ⟨#[116, 114, 97, 105, 116]⟩ = false) (n6 : isMark r i ⟨#[105, 109, 112, 108]⟩ = false) (n7 : isMark r i ⟨#[109, 97, 99, 114, 111]⟩ = false) :
  Calls Tryz.prog 33 #[.pointer (some ⟨r.b, 0, none⟩)] w (RrPost r ((failM : PM Tree)) (.ok i) s w) := by
 have HT := Lib.hid (St.start h)
 have HE := Lib.hid hE
 have HK := Lib.hid hK
 obtain ⟨P, hP⟩ : ∃ P, ((failM : PM Tree)) = P := ⟨_, rfl⟩
 have hd : Due P (.ok i) ((failM : PM Tree)) (.ok i) := by rw [hP]; exact Due.refl _ _
 rw [hP]
 clear hP
 have HD := Lib.hid hd
 clear h hE hK hd
 go_enter Tryz.func33, Tryz.ntmps33
 go_wp2_with fail
 generalize w.alloc (.cells #[.int .i64 0, .string ⟨#[]⟩, .int .i64 0, .slice none 0 0] 40) = w1 at *
 refine (here_r r _ s _ HT.out.rr).mono ?_
 rintro e w2 ⟨a, rfl, hr, hm, hg⟩
 replace HT := Lib.hid (HT.out.on hr hm)
 clear hr hm hg
 rw [after_here] at HT
 go_wp2_with fail
 refine (take_no r i s ⟨#[117, 115, 101]⟩ _ HT.out.rr HE.out HK.out (by decide) (known_of (by decide)) n0).mono ?_
 rintro e u0 ⟨rfl, hr, hm⟩
 replace HT := Lib.hid (HT.out.on hr hm)
 clear hr hm n0
 go_wp2_with fail
 refine (take_no r i s ⟨#[112, 117, 98]⟩ _ HT.out.rr HE.out HK.out (by decide) (known_of (by decide)) n1).mono ?_
 rintro e u1 ⟨rfl, hr, hm⟩
 replace HT := Lib.hid (HT.out.on hr hm)
 clear hr hm n1
 go_wp2_with fail
 refine (take_no r i s ⟨#[99, 111, 110, 115, 116]⟩ _ HT.out.rr HE.out HK.out (by decide) (known_of (by decide)) n2).mono ?_
 rintro e u2 ⟨rfl, hr, hm⟩
 replace HT := Lib.hid (HT.out.on hr hm)
 clear hr hm n2
 go_wp2_with fail
 refine (take_no r i s ⟨#[102, 110]⟩ _ HT.out.rr HE.out HK.out (by decide) (known_of (by decide)) n3).mono ?_
 rintro e u3 ⟨rfl, hr, hm⟩
 replace HT := Lib.hid (HT.out.on hr hm)
 clear hr hm n3
 go_wp2_with fail
 refine (take_no r i s ⟨#[116, 121, 112, 101]⟩ _ HT.out.rr HE.out HK.out (by decide) (known_of (by decide)) n4).mono ?_
 rintro e u4 ⟨rfl, hr, hm⟩
 replace HT := Lib.hid (HT.out.on hr hm)
 clear hr hm n4
 go_wp2_with fail
 refine (take_no r i s ⟨#[116, 114, 97, 105, 116]⟩ _ HT.out.rr HE.out HK.out (by decide) (known_of (by decide)) n5).mono ?_
 rintro e u5 ⟨rfl, hr, hm⟩
 replace HT := Lib.hid (HT.out.on hr hm)
 clear hr hm n5
 go_wp2_with fail
 refine (take_no r i s ⟨#[105, 109, 112, 108]⟩ _ HT.out.rr HE.out HK.out (by decide) (known_of (by decide)) n6).mono ?_
 rintro e u6 ⟨rfl, hr, hm⟩
 replace HT := Lib.hid (HT.out.on hr hm)
 clear hr hm n6
 go_wp2_with fail
 refine (take_no r i s ⟨#[109, 97, 99, 114, 111]⟩ _ HT.out.rr HE.out HK.out (by decide) (known_of (by decide)) n7).mono ?_
 rintro e u7 ⟨rfl, hr, hm⟩
 replace HT := Lib.hid (HT.out.on hr hm)
 clear hr hm n7
 go_wp2_with fail
 refine (rFail_any r _ s _ HT.out.rr).mono ?_
 rintro e w19 ⟨rfl, hr, hm⟩
 replace HT := Lib.hid (HT.out.on hr hm)
 replace HD := Lib.hid (HD.out.failed (Q := (failM : PM Tree)))
 clear hr hm
 have HW := Lib.hid (HT.out.ret (q := ⟨0, ⟨#[]⟩, 0, none, 0, 0⟩) (IsT.leaf _ _ 0 ⟨#[]⟩ 0))
 obtain ⟨d0, d1, d2, d3, f0⟩ := HT.out.res.cells
 try unfold ndC
 go_wp2_with fail
 obtain ⟨hcell, hist, hrr, hmv⟩ := HW.out
 exact bodyPost_ret (results_cellT rfl _ _ _ ⟨w.heap.size, 0, none⟩ _ rfl (load_node _ _ ⟨0, ⟨#[]⟩, 0, none, 0, 0⟩ hcell)) rfl (HD.out.postE hist hrr hmv)
end Go.Proofs.YtgcaeimlmkkeoaaGreat
namespace Go.Proofs.YtgcaeimlmkkeoaaGreat
open Go Go.RowKit
theorem rItem_any (r : Rdr) (i : Nat) (w : World) (h : RrAt r (.ok i) false w) (hE : EndAt r) (hK : Known r.L) (hI : IntAt r) (hQ : EqMark r.L) :
  Calls Tryz.prog 33 #[.pointer (some ⟨r.b, 0, none⟩)] w (RrPost r (itemT r) (.ok i) false w) := by
 have hT := fun σ1 w1 (h1 : RrAt r σ1 false w1) => rType_any r false hE hK σ1 w1 h1
 have hT1 := fun σ1 w1 (h1 : RrAt r σ1 true w1) => rType_any r true hE hK σ1 w1 h1
 have hX := fun σ1 w1 (h1 : RrAt r σ1 false w1) => rExprT_any r false hE hK hI hQ σ1 w1 h1
 have hB := fun σ1 w1 (h1 : RrAt r σ1 false w1) => rBlockT_any r false hE hK hI hQ σ1 w1 h1
 have u0 : Up (typL r false 60) := typL_mono 60
 have u1 : Up (typL r true 60) := typL_mono 60
 have ub := (ups_sub r 60).2.1.up
 have he : itemT r i = _ := itemM_eq
 by_cases h0 : isMark r i ⟨#[117, 115, 101]⟩ = true
 ·have he := he.trans (congrFun (if_pos h0) i)
  exact (rItem_use r i false w h hE hK h0).mono fun e w' hp => hp.same (by rw [he, useR_eq])
 have he := he.trans (congrFun (if_neg h0) i)
 have n0 := eq_false_of_ne_true h0
 by_cases h1 : isMark r i ⟨#[112, 117, 98]⟩ = true
 ·have he := he.trans (congrFun (if_pos h1) i)
  exact (rItem_pub r i false w h hE hK n0 h1).mono fun e w' hp => hp.same (by rw [he, pubR_eq])
 have he := he.trans (congrFun (if_neg h1) i)
 have n1 := eq_false_of_ne_true h1
 by_cases h2 : isMark r i ⟨#[99, 111, 110, 115, 116]⟩ = true
 ·have he := he.trans (congrFun (if_pos h2) i)
  exact (rItem_const r i false _ _ w h hE hK hT hX n0 n1 h2).mono fun e w' hp => hp.same (by rw [he])
 have he := he.trans (congrFun (if_neg h2) i)
 have n2 := eq_false_of_ne_true h2
 by_cases h3 : isMark r i ⟨#[102, 110]⟩ = true
 ·have he := he.trans (congrFun (if_pos h3) i)
  exact (rItem_fn r i false _ _ u0 w h hE hK hT hB n0 n1 n2 h3).mono fun e w' hp => hp.same (by rw [he, funR_eq r hK _ _ u0 true])
 have he := he.trans (congrFun (if_neg h3) i)
 have n3 := eq_false_of_ne_true h3
 by_cases h4 : isMark r i ⟨#[116, 121, 112, 101]⟩ = true
 ·have he := he.trans (congrFun (if_pos h4) i)
  exact (rItem_type r i false _ u0 w h hE hK hT n0 n1 n2 n3 h4).mono fun e w' hp => hp.same (by rw [he, recR_eq r hK _ u0])
 have he := he.trans (congrFun (if_neg h4) i)
 have n4 := eq_false_of_ne_true h4
 by_cases h5 : isMark r i ⟨#[116, 114, 97, 105, 116]⟩ = true
 ·have he := he.trans (congrFun (if_pos h5) i)
  exact (rItem_trait r i _ u1 w h hE hK hT1 n0 n1 n2 n3 n4 h5).mono fun e w' hp => hp.same (by rw [he, traR_eq r hK _ u1])
 have he := he.trans (congrFun (if_neg h5) i)
 have n5 := eq_false_of_ne_true h5
 by_cases h6 : isMark r i ⟨#[105, 109, 112, 108]⟩ = true
 ·have he := he.trans (congrFun (if_pos h6) i)
  exact (rItem_impl r i false _ _ u0 ub w h hE hK hT hB n0 n1 n2 n3 n4 n5 h6).mono fun e w' hp => hp.same (by rw [he, impR_eq r hK _ _ u0])
 have he := he.trans (congrFun (if_neg h6) i)
 have n6 := eq_false_of_ne_true h6
 by_cases h7 : isMark r i ⟨#[109, 97, 99, 114, 111]⟩ = true
 ·have he := he.trans (congrFun (if_pos h7) i)
  exact (rItem_macro r i false _ w h hE hK hX n0 n1 n2 n3 n4 n5 n6 h7).mono fun e w' hp => hp.same (by rw [he, macR_eq])
 have he := he.trans (congrFun (if_neg h7) i)
 have n7 := eq_false_of_ne_true h7
 exact (rItem_none r i false w h hE hK n0 n1 n2 n3 n4 n5 n6 n7).mono fun e w' hp => hp.same (by rw [he])
-- words that begin an item
def begL : List Lx.Bs := [[117, 115, 101], [112, 117, 98], [99, 111, 110, 115, 116], [102, 110], [116, 121, 112, 101], [116, 114, 97, 105, 116], [105, 109, 112, 108], [109, 97, 99, 114, 111]]
theorem beg_run : ∀ x ∈ begL, Lx.kindRun x = 2 := by decide
theorem beg_head : ∀ x ∈ begL, (x.head?.map Lx.runB) = some true := by decide
theorem beg_kind (c : UInt8) (l : Lx.Bs) (h : ((c :: l).take (Lx.tokLen (c :: l))) ∈ begL) : Lx.tokKind (c :: l) = 2 := by
 have hh := beg_head _ h
 have hc : Lx.runB c = true := by
  cases hn : Lx.tokLen (c :: l) with
  | zero => rw [hn] at hh; simp at hh
  | succ n => rw [hn] at hh; simpa using hh
 have hr : 0 < Lx.runLen (c :: l) := by
  unfold Lx.runLen
  rw [List.takeWhile_cons, if_pos hc]
  simp
 unfold Lx.tokKind Lx.tokLen at *
 rw [if_pos hr] at h ⊢
 exact beg_run _ h
def BegW (L : List Lx.Tok) : Prop := ∀ t ∈ L, begins t.text = true → t.kind = 2
theorem beg_mem {t : ByteArray} (h : begins t = true) : t.toList ∈ begL := by
 unfold begins at h
 simp only [Bool.or_eq_true, isB, beq_iff_eq] at h
 unfold begL
 simp only [ByteArray.toList_eq] at h ⊢
 rcases h with ((((((h | h) | h) | h) | h) | h) | h) | h <;> (rw [h]; decide)
theorem scan_begW {l : Lx.Bs} {a : Nat} {T : List Lx.Tok} (h : Lx.Scan l a T) : BegW T := by
 induction h with
 | fin a =>
  intro t ht hk
  have : t = ⟨0, ByteArray.empty, a⟩ := by simpa using ht
  subst this
  have hk2 := beg_mem hk
  have e : (ByteArray.empty : ByteArray).toList = [] := by rw [ByteArray.toList_eq]; rfl
  simp only [e] at hk2
  exact absurd hk2 (by decide)
 | blank c l a T hb h ih => exact ih
 | comm c l a T hb hc h ih => exact ih
 | tok c l a T hb hc h ih =>
  intro t ht hk
  rcases List.mem_cons.1 ht with rfl | ht
  ·refine beg_kind c l ?_
   have hk2 := beg_mem hk
   have : (Lx.tokOf (c :: l) a).text.toList = (c :: l).take (Lx.tokLen (c :: l)) := by
    unfold Lx.tokOf
    rw [ByteArray.toList_eq, Lx.mk_data]
   rwa [this] at hk2
  ·exact ih t ht hk
end Go.Proofs.YtgcaeimlmkkeoaaGreat
namespace Go.Proofs.YtgcaeimlmkkeoaaGreat
open Go Go.RowKit
theorem wpList_modNg {W : World} {ops : Array Oper} {rest : List Oper} {o : Oper} {act : Act} {Q : Exit → Act → World → Prop} (hgd : o.guard = none) (s x : Operand)
  (ho : o.op = .call { callee := .builtin .append, args := #[s, x], argTypes := #[36, 36] })
  {w w0 : World} {v5 v6 : Value} {ts : List Tree} {es : List Int} {q : Raw} {t : Tree} (h : ModS w v5 v6 ts es w0) (ht : IsT (fun b => w.heap.size ≤ b ∧ v5.ownBlock ≠ some b ∧ v6.ownBlock ≠ some b) w0 q t) (hl : ts.length ≤ 100000)
  (hw : w0.alloc (.cells (ndC q) 40) = W) (hs : act.eval s = v5) (hx : act.eval x = .slice (some ⟨w0.heap.size, 0, none⟩) 1 1)
  (hk : ∀ v' w', ModS w v' v6 (ts ++ [t]) es w' → W.grownBy w' v5.ownBlock → wpList Tryz.prog ops Q rest (act.put o.dst v') w') : wpList Tryz.prog ops Q (o :: rest) act W := by
 have h' : ModS w v5 v6 ts es W := by rw [← hw]; exact h.on (boxB w0 _)
 have ht' : IsT (fun b => w.heap.size ≤ b ∧ v5.ownBlock ≠ some b ∧ v6.ownBlock ≠ some b) W q t := by rw [← hw]; exact ht.later (boxB w0 _)
 have hnew := heap_alloc_new w0 (.cells (ndC q) 40 (0, 0))
 rw [hw] at hnew
 obtain ⟨i0, hi, hz0, hz1, hz2⟩ := info_parts infoTree
 obtain ⟨R, hown, hRl, hT⟩ := h'.nodes
 have cell : ∀ j u, (rawEnc.cells q)[j]? = some u → W.cell? ⟨w0.heap.size, j, none⟩ = some u := by
  intro j u hu
  rw [Lib.cell_of_heap hnew, ← hu, ← Array.getElem?_toList]
  rfl
 refine wpList_append_own_at W hgd s x 36 ho w.heap.size 40 i0 _ 4 56 Tryz.underlying36 hi hz0 hz1 hz2 rfl (by decide) v5 R.length (rawEnc.all R) hs hown ⟨w0.heap.size, 0, none⟩ 1 1 (rawEnc.cells q) hx rfl (fun j u hu => by rw [add_lit, Nat.zero_add]; exact cell j u hu) (rawEnc.one q) (by unfold maxLen; omega) (by omega) h'.be.size ?_
 intro v' w' g1 g2 _ g4
 have hbut : Same (fun a => v5.ownBlock = some a.block) W w' := fun a u hc hM => by
  rw [World.cell?_of_block (g2.block a.block (World.block_lt_of_cell? W _ hc) (fun e => hM e.symm))]
  exact hc
 have keep : ∀ {qq : Raw} {tt : Tree}, IsT (fun b => w.heap.size ≤ b ∧ v5.ownBlock ≠ some b ∧ v6.ownBlock ≠ some b) W qq tt → IsT (fun b => w.heap.size ≤ b ∧ v'.ownBlock ≠ some b ∧ v6.ownBlock ≠ some b) w' qq tt := by
  intro qq tt h
  refine (h.old.same hbut (fun a e q => q.1.2.1 e)).mono (fun b hb => ⟨hb.1.1, fun e => ?_, hb.1.2.2⟩)
  rcases g4 with g4 | g4
  ·rw [g4] at e; exact hb.1.2.1 e
  ·rw [g4] at e
   have h3 : W.heap.size = b := by simpa using e
   have := hb.2
   omega
 refine hk v' w' ⟨h'.be.grown g2 h'.be.size (fun g e => (hown.lt g e).1), ⟨R ++ [q], ?_, by simp [hRl], fun j h1 h2 => ?_⟩, h'.errs.keep (fun g e => g2.block g (h'.errs.lt g e).2 (fun e2 => h'.apart g e2.symm e)), fun g e => ?_⟩ g2
 ·unfold OwnL
  rw [List.length_append, rawEnc.all_append, rawEnc.all_cons, rawEnc.all_nil, List.append_nil]
  exact g1
 ·by_cases hj : j < R.length
  ·rw [List.getElem_append_left hj, List.getElem_append_left (by omega)]
   exact keep (hT j hj (by omega))
  ·have e1 : (R ++ [q])[j] = q := by rw [List.getElem_append_right (by omega)]; simp
   have e2 : (ts ++ [t])[j] = t := by rw [List.getElem_append_right (by omega)]; simp
   rw [e1, e2]
   exact keep ht'
 ·rcases g4 with g4 | g4
  ·rw [g4] at e; exact h'.apart g e
  ·rw [g4] at e
   have h3 : W.heap.size = g := by simpa using e
   intro e6
   have := (h'.errs.lt g e6).2
   omega
theorem wpList_modEg {W : World} {ops : Array Oper} {rest : List Oper} {o : Oper} {act : Act} {Q : Exit → Act → World → Prop} (hgd : o.guard = none) (s x : Operand)
  (ho : o.op = .call { callee := .builtin .append, args := #[s, x], argTypes := #[28, 28] })
  {w w0 : World} {v5 v6 : Value} {ts : List Tree} {es : List Int} {k : Int} (h : ModS w v5 v6 ts es w0) (hl : es.length ≤ 100000)
  (hw : w0.alloc (.cells #[.int .i64 k] 3) = W) (hs : act.eval s = v6) (hx : act.eval x = .slice (some ⟨w0.heap.size, 0, none⟩) 1 1)
  (hk : ∀ v' w', ModS w v5 v' ts (es ++ [k]) w' → W.grownBy w' v6.ownBlock → wpList Tryz.prog ops Q rest (act.put o.dst v') w') : wpList Tryz.prog ops Q (o :: rest) act W := by
 have h' : ModS w v5 v6 ts es W := by rw [← hw]; exact h.on (boxB w0 _)
 have hnew := heap_alloc_new w0 (.cells #[.int .i64 k] 3 (0, 0))
 rw [hw] at hnew
 obtain ⟨i0, hi, hz0, hz1, hz2⟩ := info_parts infoInt
 obtain ⟨R, hown, hRl, hT⟩ := h'.nodes
 have cell : ∀ j u, (intE.cells k)[j]? = some u → W.cell? ⟨w0.heap.size, j, none⟩ = some u := by
  intro j u hu
  rw [Lib.cell_of_heap hnew, ← hu, ← Array.getElem?_toList]
  rfl
 refine wpList_append_own_at W hgd s x 28 ho w.heap.size 3 i0 _ 1 8 Tryz.underlying28 hi hz0 hz1 hz2 rfl (by decide) v6 es.length (intE.all es) hs h'.errs ⟨w0.heap.size, 0, none⟩ 1 1 (intE.cells k) hx rfl (fun j u hu => by rw [add_lit, Nat.zero_add]; exact cell j u hu) (intE.one k) (by unfold maxLen; omega) (by omega) h'.be.size ?_
 intro v' w' g1 g2 _ g4
 have hbut : Same (fun a => v6.ownBlock = some a.block) W w' := fun a u hc hM => by
  rw [World.cell?_of_block (g2.block a.block (World.block_lt_of_cell? W _ hc) (fun e => hM e.symm))]
  exact hc
 refine hk v' w' ⟨h'.be.grown g2 h'.be.size (fun g e => (h'.errs.lt g e).1), ⟨R, hown.keep (fun g e => g2.block g (hown.lt g e).2 (fun e2 => h'.apart g e e2.symm)), hRl, fun j h1 h2 => ?_⟩, ?_, fun g e => ?_⟩ g2
 ·refine ((hT j h1 h2).old.same hbut (fun a e q => q.1.2.2 e)).mono (fun b hb => ⟨hb.1.1, hb.1.2.1, fun e => ?_⟩)
  rcases g4 with g4 | g4
  ·rw [g4] at e; exact hb.1.2.2 e
  ·rw [g4] at e
   have h3 : W.heap.size = b := by simpa using e
   have := hb.2
   omega
 ·unfold OwnL
  rw [List.length_append, intE.all_append, intE.all_cons, intE.all_nil, List.append_nil]
  exact g1
 ·rcases g4 with g4 | g4
  ·rw [g4]; exact h'.apart g e
  ·rw [g4]
   intro e6
   have h3 : W.heap.size = g := by simpa using e6
   have := (hown.lt g e).2
   omega
theorem resP_end {L : List Lx.Tok} {first f k : Nat} (h : (L.getD k tok0).kind = 0) : resP L first f k = k := by
 cases f with
 | zero => rfl
 | succ f => unfold resP; rw [if_pos h]
theorem resP_stop {L : List Lx.Tok} {first f k : Nat} (h : (L.getD k tok0).kind ≠ 0) (h2 : ¬ (k = first ∨ begins (L.getD k tok0).text = false)) : resP L first (f + 1) k = k := by
 show (if (L.getD k tok0).kind = 0 then k else if k = first ∨ begins (L.getD k tok0).text = false then resP L first f (k + 1) else k) = k
 rw [if_neg h, if_neg h2]
theorem resP_on {L : List Lx.Tok} {first f k : Nat} (h : (L.getD k tok0).kind ≠ 0) (h2 : k = first ∨ begins (L.getD k tok0).text = false) : resP L first (f + 1) k = resP L first f (k + 1) := by
 show (if (L.getD k tok0).kind = 0 then k else if k = first ∨ begins (L.getD k tok0).text = false then resP L first f (k + 1) else k) = _
 rw [if_neg h, if_pos h2]
theorem results_rmod {tmps : Array Value} {w : World} {v0 v1 : Value} (h0 : tmps.getD 2 undef = v0) (h1 : tmps.getD 3 undef = v1) : (results Tryz.f15 tmps).run Tryz.prog w = .ok (.tuple #[v0, v1]) w := by
 have e0 : tmps[2]?.getD undef = v0 := by simpa using h0
 have e1 : tmps[3]?.getD undef = v1 := by simpa using h1
 simp [results, Tryz.results15, e0, e1]
/-- a cell of an older block stays behind an append -/
theorem grown_cell {w w' : World} {row : Option Nat} {a : Addr} {v : Value} (hg : w.grownBy w' row) (h : w.cell? a = some v) (hr : row ≠ some a.block) : w'.cell? a = some v := by
 rw [World.cell?_of_block (hg.block a.block (World.block_lt_of_cell? w _ h) (fun e => hr e.symm))]
 exact h
set_option maxRecDepth 100000 in
set_option maxHeartbeats 4000000 in
theorem rModule_any (s : ByteArray) (w : World) (hs : s.size ≤ 4611686018427387904) : Calls Tryz.prog 15 #[.string s] w (ModPost (modOf s) w) := by
 by_cases hbig : 20000 < s.size
 ·have hz : tokList s = [] := by unfold tokList; rw [if_neg (by omega)]
  have hX : modOf s = some ([], [0]) := by unfold modOf modV; rw [hz]; rfl
  rw [hX]
  have HZ : Hid (SlIs intE (w.alloc (.cells #[.int .i64 0] 3)) (.slice (some ⟨w.heap.size, 0, none⟩) 1 1) [0]) := ⟨_, 1, rfl, by simp, by decide, fun _ => ⟨w.heap.size, 0, rfl, fun j v hv => by
   rw [Lib.cell_of_heap (heap_alloc_new w _), Nat.zero_add, ← hv, ← Array.getElem?_toList]
   rfl⟩⟩
  clear hz hX
  go_enter Tryz.func15, Tryz.ntmps15
  go_wp2_with fail
  exact bodyPost_ret (results_rmod rfl rfl) rfl ⟨_, _, rfl, IsTs.isNil _ _, HZ.out, boxB w _⟩
 have HTO := Lib.hid (fun w => refTokens_any s w hs)
 have hz : tokList s = Lx.toks s := by unfold tokList; rw [if_pos (by omega)]
 have hTk : Toks (tokList s) := by
  rcases tokList_toks s with h | h
  ·exfalso
   have h2 := Lx.Scan.ends (Lx.toks_scan s)
   rw [← hz, h] at h2
   obtain ⟨D, e, h3, _⟩ := h2
   exact absurd h3 (by simp)
  ·exact h
 have hKn : Known (tokList s) := by rw [hz]; exact scan_known (Lx.toks_scan s)
 have hQm : EqMark (tokList s) := by rw [hz]; exact scan_eqMark (Lx.toks_scan s)
 have hBw : BegW (tokList s) := by rw [hz]; exact scan_begW (Lx.toks_scan s)
 unfold modOf
 obtain ⟨L, hL⟩ : ∃ L, tokList s = L := ⟨_, rfl⟩
 have HTO2 : Hid (∀ w, Calls Tryz.prog 32 #[.string s] w fun e w' => ∃ v, e = .returned v ∧ SlIs tokEnc w' v L ∧ Below w.heap.size w w') := by rw [← hL]; exact HTO.out
 rw [hL] at hTk hKn hQm hBw ⊢
 have HTK := Lib.hid hTk
 have HKN := Lib.hid hKn
 have HQM := Lib.hid hQm
 have HBW := Lib.hid hBw
 have hpos : 0 < L.length := by
  obtain ⟨D, e, h3, _⟩ := HTK.out.ends
  rw [h3]; simp
 have h0 : ¬ L.length = 0 := by omega
 generalize hXX : modV L (itemT (core L)) = X
 have hX0 : modM L (itemT (core L)) (L.length + 1) 0 [] [] = X := by have h := hXX; unfold modV at h; rw [if_neg h0] at h; exact h
 have HX0 := Lib.hid hX0
 have hfew := hTk.few
 have hE : EndAt (core L) := Toks.endAt (r := core L) hTk
 have hIn : IntAt (core L) := Toks.intAt (r := core L) hTk
 have HFI := Lib.hid (fine_itemT hE hIn)
 have HUP := Lib.hid (ups_itemT (core L))
 clear hXX hTk hKn hQm hBw hL hz HTO hX0 hE hIn h0
 go_enter Tryz.func15, Tryz.ntmps15
 go_wp2_with fail
 refine (HTO2.out w).mono ?_
 rintro e w2 ⟨v, rfl, hsl, hb⟩
 obtain ⟨tp, cap, rfl, hlc, hcm, hlies⟩ := hsl
 have HB2 := Lib.hid hb
 have HSL : Hid (SlIs tokEnc w2 (.slice tp L.length cap) L) := ⟨tp, cap, rfl, hlc, hcm, hlies⟩
 obtain ⟨b, off, rfl, hcl⟩ := hlies hpos
 have hbl : b < w2.heap.size := World.block_lt_of_cell? w2 _ (hcl.elem 0 hpos 0 (by decide) _ rfl)
 have HCL := Lib.hid hcl
 have HBL := Lib.hid hbl
 have HI2 : Hid (ModI L X w2 0 (L.length + 1) [] [] (.slice none 0 0) (.slice none 0 0) w2) := ⟨ModS.start w2, by omega, ⟨Nat.le_refl _, Nat.le_refl _⟩, HX0.out⟩
 clear hb hlc hcm hcl hbl hlies HTO2 HX0
 go_wp2_with fail
 go_loopw [5, 6, 7] (fun v5 v6 v7 wr => ∃ (k f : Nat) (ts : List Tree) (es : List Int), v7 = .int .i64 (k : Int) ∧ k < L.length ∧ Hid (ModI L X w2 k f ts es v5 v6 wr)) (fun _ _ v7 _ => L.length - (intOf v7).toNat)
 case atStart => exact ⟨0, L.length + 1, [], [], rfl, hpos, HI2.out⟩
 case round =>
  obtain ⟨k, f, ts, es, rfl, hk, HI⟩ := hrel
  clear HI2
  have hf := HI.out.fuel
  obtain ⟨hfew5, hfew6⟩ := HI.out.few
  obtain ⟨f', rfl⟩ : ∃ f', f = f' + 1 := ⟨f - 1, by omega⟩
  have HCW : Hid (CellsAt wr b off (tokEnc.all L)) := HCL.out.below HI.out.st.be
  have hc0 := (tok_cells HCW.out k hk).1
  have hki : ((k : Nat) : Int) < ((L.length : Nat) : Int) := by omega
  have heq : (if (L.getD k tok0).kind = 0 then some (ts, es) else match itemT (core L) k with
   | .ok (t, j) => modM L (itemT (core L)) f' j (ts ++ [t]) es
   | .error j => modM L (itemT (core L)) f' (resP L k (L.length + 1) j) ts (es ++ [(L.getD j tok0).at_])) = X := HI.out.eq
  by_cases hkd : (L.getD k tok0).kind = 0
  ·rw [if_pos hkd] at heq
   subst heq
   rw [hkd] at hc0
   obtain ⟨R, ho, hRl, hRt⟩ := HI.out.st.nodes
   have HOUT : Hid (IsTs (fun b => w.heap.size ≤ b) wr u5 ts ∧ SlIs intE wr u6 es ∧ Below w.heap.size w wr) := by
    refine ⟨?_, HI.out.st.errs.sl, HB2.out.trans (HI.out.st.be.mono HB2.out.size)⟩
    have hn : Nodes w2.heap.size wr u5 ts := ⟨R, ho, hRl, fun i a c => (hRt i a c).mono (fun b hb => ⟨hb.1, hb.2.1⟩)⟩
    exact hn.list.mono (fun b hb => Nat.le_trans HB2.out.size hb)
   clear ho hRl hRt hkd
   go_wp2_with fail
   exact bodyPost_ret (results_rmod rfl rfl) rfl ⟨_, _, rfl, HOUT.out⟩
  ·rw [if_neg hkd] at heq
   have HEQ := Lib.hid heq
   have HKD := Lib.hid hkd
   have hkb : ((L.getD k tok0).kind == 0) = false := by simpa using hkd
   have hSLr : SlIs tokEnc wr (.slice (some ⟨b, off, none⟩) L.length cap) L := HSL.out.below HI.out.st.be
   have hbx := boxB wr (.cells #[.slice (some ⟨b, off, none⟩) L.length cap, .int .i64 (k : Int), .int .i64 (-1), .bool false] 71)
   obtain ⟨r, hr⟩ : ∃ r : Rdr, r = ⟨wr.heap.size, some ⟨b, off, none⟩, cap, L⟩ := ⟨_, rfl⟩
   have hrL : r.L = L := by rw [hr]
   have hrb : r.b = wr.heap.size := by rw [hr]
   have HR : Hid (RrAt r (.ok k) false (wr.alloc (.cells #[.slice (some ⟨b, off, none⟩) L.length cap, .int .i64 (k : Int), .int .i64 (-1), .bool false] 71))) := by
    rw [hr]
    exact (⟨heap_alloc_new wr _, hSLr.below hbx, fun b' o e => by cases e; exact Nat.lt_of_lt_of_le HBL.out HI.out.st.be.size, hk, HTK.out.few, by decide⟩ : RrIn ⟨wr.heap.size, some ⟨b, off, none⟩, cap, L⟩ k (-1) false (wr.alloc (.cells #[.slice (some ⟨b, off, none⟩) L.length cap, .int .i64 (k : Int), .int .i64 (-1), .bool false] 71)))
   have HPE : Hid (itemT r = itemT (core L)) := by show _ = _; rw [itemT_core, hrL]
   have HRB : Hid (wr.heap.size = r.b) := hrb.symm
   have HW3 : Hid (Below wr.heap.size wr (wr.alloc (.cells #[.slice (some ⟨b, off, none⟩) L.length cap, .int .i64 (k : Int), .int .i64 (-1), .bool false] 71))) := hbx
   have HZ3 : Hid (wr.heap.size < (wr.alloc (.cells #[.slice (some ⟨b, off, none⟩) L.length cap, .int .i64 (k : Int), .int .i64 (-1), .bool false] 71)).heap.size) := lt_heap (heap_alloc_new wr _)
   obtain ⟨hfo, hfe⟩ := HFI.out k (show k < (core L).L.length from hk)
   have HFO := Lib.hid hfo
   have HFE := Lib.hid hfe
   generalize (L.getD k tok0).kind = kd at hc0 hkb hkd
   clear hfo hfe heq hSLr hr hbx
   go_wp2_with fail
   rw [← hrb]
   generalize wr.alloc (.cells #[.slice (some ⟨b, off, none⟩) L.length cap, .int .i64 (k : Int), .int .i64 (-1), .bool false] 71) = w3 at *
   clear hrb
   have HTr : Hid (Toks r.L) := by show Toks r.L; rw [hrL]; exact HTK.out
   have HKr : Hid (Known r.L) := by show Known r.L; rw [hrL]; exact HKN.out
   have HQr : Hid (EqMark r.L) := by show EqMark r.L; rw [hrL]; exact HQM.out
   refine (rItem_any r k w3 HR.out HTr.out.endAt HKr.out HTr.out.intAt HQr.out).mono ?_
   rintro e w4 ⟨q, t, rfl, ht, hrr, hm, hg⟩
   rw [HPE.out] at hrr hg
   have hb4 : Below wr.heap.size wr w4 := HW3.out.trans (But.below hm HW3.out.size (fun a e => by have e' : a.block = r.b := e; have := HRB.out; omega))
   have hbv := boxB w4 (.cells #[.int .i64 q.kind, .string q.text, .int .i64 q.at_, .slice q.p q.n q.cap] 40)
   have HS5 := Lib.hid ((HI.out.st.on hb4).on hbv)
   have HR5 := Lib.hid (hrr.below hbv)
   have HT5 : Hid (IsT (fun b => w2.heap.size ≤ b ∧ u5.ownBlock ≠ some b ∧ u6.ownBlock ≠ some b) (w4.alloc (.cells #[.int .i64 q.kind, .string q.text, .int .i64 q.at_, .slice q.p q.n q.cap] 40)) q t) := by
    refine (ht.later hbv).mono (fun b hb => ?_)
    have h1 := HZ3.out
    have h2 := HI.out.st.be.size
    refine ⟨by omega, fun e => ?_, fun e => ?_⟩
    ·obtain ⟨R, ho, _, _⟩ := HI.out.st.nodes
     have := (ho.lt b e).2
     omega
    ·have := (HI.out.st.errs.lt b e).2
     omega
   have HZ5 : Hid ((w4.alloc (.cells #[.int .i64 q.kind, .string q.text, .int .i64 q.at_, .slice q.p q.n q.cap] 40)).heap[w4.heap.size]? = some (.cells (ndC q) 40 (0, 0))) := heap_alloc_new w4 _
   have HG := Lib.hid hg
   have HO5 : Hid (∀ b, (u5.ownBlock = some b ∨ u6.ownBlock = some b) → b < r.b) := fun b e => by
    have h3 := HRB.out
    rcases e with e | e
    ·obtain ⟨R, ho, _, _⟩ := HI.out.st.nodes
     have := (ho.lt b e).2
     omega
    ·have := (HI.out.st.errs.lt b e).2
     omega
   have HB5 : Hid (Below w2.heap.size w2 (w4.alloc (.cells #[.int .i64 q.kind, .string q.text, .int .i64 q.at_, .slice q.p q.n q.cap] 40))) := HS5.out.be
   clear ht hrr hm hg hb4 hbv HR HPE HW3 HZ3 hki hc0
   unfold ndC
   go_wp2_with fail
   obtain ⟨g, hgz⟩ : ∃ g, w4.heap.size = g := ⟨_, rfl⟩
   rw [hgz] at HZ5 ⊢
   clear hgz
   generalize w4.alloc (.cells #[.int .i64 q.kind, .string q.text, .int .i64 q.at_, .slice q.p q.n q.cap] 40) = w5 at *
   refine (ok_r r _ false w5 HR5.out).mono ?_
   rintro e w6 ⟨bb, rfl, rfl, hbb⟩
   cases hx : itemT (core L) k with
   | ok z =>
    obtain ⟨t', j⟩ := z
    have ha : after (itemT (core L)) (.ok k) = .ok j := after_ok hx
    have ht' : t = t' := HG.out k _ _ rfl hx
    subst ht'
    rcases hbb with ⟨rfl, _⟩ | ⟨_, i, hi⟩
    rotate_left
    ·rw [ha] at hi; cases hi
    have hR5 := HR5.out
    rw [ha] at hR5
    have hin : RrIn r j (-1) false w6 := hR5
    have hj' : j < L.length := by have := hin.lt; rw [hrL] at this; exact this
    have hkj : k < j := HUP.out _ _ _ hx
    have hXn : modM L (itemT (core L)) f' j (ts ++ [t]) es = X := by have h := HEQ.out; rw [hx] at h; exact h
    have HXN := Lib.hid hXn
    have HIN := Lib.hid hin
    have b0 : w6.cell? ⟨g, 0, none⟩ = some (.int .i64 q.kind) := by rw [Lib.cell_of_heap HZ5.out]; rfl
    have b1 : w6.cell? ⟨g, 1, none⟩ = some (.string q.text) := by rw [Lib.cell_of_heap HZ5.out]; rfl
    have b2 : w6.cell? ⟨g, 2, none⟩ = some (.int .i64 q.at_) := by rw [Lib.cell_of_heap HZ5.out]; rfl
    have b3 : w6.cell? ⟨g, 3, none⟩ = some (.slice q.p q.n q.cap) := by rw [Lib.cell_of_heap HZ5.out]; rfl
    have HC1 : Hid ((w6.alloc (.cells #[.int .i64 q.kind, .string q.text, .int .i64 q.at_, .slice q.p q.n q.cap] 40)).cell? ⟨r.b, 1, none⟩ = some (.int .i64 (j : Int))) := by
     show _ = _
     rw [Lib.cell_of_heap (by rw [(boxB w6 (.cells #[.int .i64 q.kind, .string q.text, .int .i64 q.at_, .slice q.p q.n q.cap] 40)).block r.b (lt_heap hin.cells)]; exact hin.cells)]
     rfl
    clear ha hXn hR5 hin hx HR5 HG HEQ HZ5
    unfold ndC at *
    go_wp2_with (at_builtin; go_must (refine wpList_modNg (o := ⟨some 34, _, _, _, _, _⟩) rfl (.tmp 31) (.tmp 33) rfl HS5.out HT5.out (by omega) rfl rfl rfl ?_; intro v' w7 hs7 hg7; have HS7 := Lib.hid hs7; have c1 := grown_cell hg7 HC1.out (fun e => by have := HO5.out r.b (.inl e); omega); clear hs7 hg7))
    go_roundw
    case rel => exact ⟨j, f', ts ++ [t], es, rfl, hj', ⟨HS7.out, by omega, ⟨by simp; omega, by omega⟩, HXN.out⟩⟩
    case measure => simp [intOf]; omega
   | error j =>
    have ha : after (itemT (core L)) (.ok k) = .error j := after_err hx
    rcases hbb with ⟨_, i, hi⟩ | ⟨rfl, _⟩
    ·rw [ha] at hi; cases hi
    have hR5 := HR5.out
    rw [ha] at hR5
    obtain ⟨hjr, aa, hin⟩ := hR5
    obtain ⟨hkj, hj⟩ := HFE.out j hx
    have hj' : j < L.length := hj
    have hji : ((j : Nat) : Int) < ((L.length : Nat) : Int) := by omega
    have hXn : modM L (itemT (core L)) f' (resP L k (L.length + 1) j) ts (es ++ [(L.getD j tok0).at_]) = X := by have h := HEQ.out; rw [hx] at h; exact h
    have HXN := Lib.hid hXn
    have HGT : Hid (k < resP L k (L.length + 1) j) := resP_gt hkj HKD.out
    have HC5 : Hid (CellsAt w6 b off (tokEnc.all L)) := HCL.out.below HB5.out
    have hc5 := (tok_cells HC5.out j hj').2.2
    obtain ⟨aj, haj⟩ : ∃ aj, (L.getD j tok0).at_ = aj := ⟨_, rfl⟩
    rw [haj] at hc5 HXN
    obtain ⟨c0, c1, c2, c3, fz⟩ := hin.c
    have HC2 : Hid ((w6.alloc (.cells #[.int .i64 aj] 3)).cell? ⟨r.b, 2, none⟩ = some (.int .i64 (j : Int))) := by
     show _ = _
     rw [Lib.cell_of_heap (by rw [(boxB w6 (.cells #[.int .i64 aj] 3)).block r.b (lt_heap hin.cells)]; exact hin.cells)]
     rfl
    clear ha hXn hin hx HR5 HG HEQ HZ5 haj c0 c1 c3 fz
    go_wp2_with (at_builtin; go_must (refine wpList_modEg (o := ⟨some 49, _, _, _, _, _⟩) rfl (.tmp 39) (.tmp 48) rfl HS5.out (by omega) rfl rfl rfl ?_; intro v' w7 hs7 hg7; have HS7 := Lib.hid hs7; have d2 := grown_cell hg7 HC2.out (fun e => by have := HO5.out r.b (.inr e); omega); clear hs7 hg7))
    clear c2 hc5 HC2 d2
    go_loopw [10] (fun v wr2 => ∃ (m f2 : Nat), v = .int .i64 (m : Int) ∧ m < L.length ∧ j ≤ m ∧ L.length ≤ f2 + m ∧ Hid (resP L k f2 m = resP L k (L.length + 1) j) ∧ Hid (ModS w2 u5 v' ts (es ++ [aj]) wr2)) (fun v _ => L.length - (intOf v).toNat)
    case atStart => exact ⟨j, L.length + 1, rfl, hj', Nat.le_refl _, by omega, rfl, HS7.out⟩
    case round =>
     clear HS7 HS5 HT5 HC5 HCW HB5
     obtain ⟨m, f2, rfl, hm, hjm, hfm, HRE, HS⟩ := hrel
     have HCM : Hid (CellsAt wr b off (tokEnc.all L)) := HCL.out.below HS.out.be
     obtain ⟨t0, t1, t2⟩ := tok_cells HCM.out m hm
     have hmi : ((m : Nat) : Int) < ((L.length : Nat) : Int) := by omega
     obtain ⟨f3, rfl⟩ : ∃ f3, f2 = f3 + 1 := ⟨f2 - 1, by omega⟩
     by_cases hmk : (L.getD m tok0).kind = 0
     ·have hre := HRE.out
      rw [resP_end hmk] at hre
      have HRM := Lib.hid hre
      rw [hmk] at t0
      clear hre hmk
      go_wp2_with fail
      go_roundw
      case rel => exact ⟨m, f', ts, es ++ [aj], rfl, hm, ⟨HS.out, by have := HGT.out; have := HRM.out; omega, ⟨by have := HGT.out; have := HRM.out; omega, by have := HGT.out; have := HRM.out; simp; omega⟩, by rw [HRM.out]; exact HXN.out⟩⟩
      case measure => have := HGT.out; have := HRM.out; simp [intOf]; omega
     ·have hk1 : m + 1 < L.length := HTK.out.inner hm (.inl hmk)
      have hmb : ((L.getD m tok0).kind == 0) = false := by simpa using hmk
      have hwr : IntKind.i64.wrap ((m : Int) + 1) = ((m + 1 : Nat) : Int) := by rw [IntWalk.i64_in _ (by omega)]; omega
      by_cases hmeq : m = k
      ·have hre := HRE.out
       rw [resP_on hmk (.inl hmeq)] at hre
       have HRN := Lib.hid hre
       have hmeq' := hmeq.symm
       subst hmeq'
       generalize (L.getD k tok0).kind = kd2 at t0 hmb hmk
       clear hre hmeq HRE
       go_wp2_with fail
       go_roundw
       case rel => exact ⟨k + 1, f3, rfl, hk1, by omega, by omega, HRN.out, HS.out⟩
       case measure => simp [intOf]; omega
      ·have h1i : ¬ ((m : Int) = (k : Int)) := by omega
       have h1b : ((m : Int) == (k : Int)) = false := by simpa using h1i
       have HBG := Lib.hid (rBegins_any (L.getD m tok0).kind (L.getD m tok0).at_ (L.getD m tok0).text wr)
       have hbw : begins (L.getD m tok0).text = true → (L.getD m tok0).kind = 2 := HBW.out _ (by rw [getD_eq _ _ _ hm]; exact List.getElem_mem hm)
       cases hbt : begins (L.getD m tok0).text
       ·have hre := HRE.out
        rw [resP_on hmk (.inr hbt)] at hre
        have HRN := Lib.hid hre
        have hb2 := HBG.out
        rw [hbt, Bool.and_false] at hb2
        replace HBG := Lib.hid hb2
        clear hre HRE hbw hbt hb2
        generalize (L.getD m tok0).kind = kd2 at *
        generalize (L.getD m tok0).text = tx2 at *
        generalize (L.getD m tok0).at_ = ax2 at *
        go_wp2_with fail
        refine HBG.out.mono ?_
        rintro e w8 ⟨rfl, hb8⟩
        have HS8 := Lib.hid (HS.out.on hb8)
        clear hb8
        go_wp2_with fail
        go_roundw
        case rel => exact ⟨m + 1, f3, rfl, hk1, by omega, by omega, HRN.out, HS8.out⟩
        case measure => simp [intOf]; omega
       ·have hre := HRE.out
        rw [resP_stop hmk (by rw [hbt]; simp [hmeq])] at hre
        have HRM := Lib.hid hre
        have hb2 := HBG.out
        rw [hbt, Bool.and_true, decide_eq_true (hbw hbt)] at hb2
        replace HBG := Lib.hid hb2
        clear hre HRE hbw hbt hb2
        generalize (L.getD m tok0).kind = kd2 at *
        generalize (L.getD m tok0).text = tx2 at *
        generalize (L.getD m tok0).at_ = ax2 at *
        go_wp2_with fail
        refine HBG.out.mono ?_
        rintro e w8 ⟨rfl, hb8⟩
        have HS8 := Lib.hid (HS.out.on hb8)
        clear hb8
        go_wp2_with fail
        go_roundw
        case rel => exact ⟨m, f', ts, es ++ [aj], rfl, hm, ⟨HS8.out, by have := HGT.out; have := HRM.out; omega, ⟨by have := HGT.out; have := HRM.out; omega, by have := HGT.out; have := HRM.out; simp; omega⟩, by rw [HRM.out]; exact HXN.out⟩⟩
        case measure => have := HGT.out; have := HRM.out; simp [intOf]; omega
end Go.Proofs.YtgcaeimlmkkeoaaGreat
namespace Go.Proofs.YtgcaeimlmkkeoaaGreat
open Go Go.RowKit
theorem WholePost.one {x : Option Tree} {w w' : World} {e : Ending} (h : WholePost x w e w') : ∃ q : Raw, e = .returned (.tuple #[.agg (ndC q), .bool x.isSome]) ∧ IsT (fun b => w.heap.size ≤ b) w' q (x.getD (.mk 0 ⟨#[]⟩ 0 [])) ∧ Below w.heap.size w w' := by
 cases x with
 | some t => exact h
 | none => obtain ⟨h1, h2⟩ := h; exact ⟨⟨0, ⟨#[]⟩, 0, none, 0, 0⟩, h1, IsT.leaf _ _ _ _ _, h2⟩
theorem ModPost.one {x : Option (List Tree × List Int)} {w w' : World} {e : Ending} (h : ModPost x w e w') : ∃ v5 v6, e = .returned (.tuple #[v5, v6]) ∧ IsTs (fun b => w.heap.size ≤ b) w' v5 (x.getD ([], [])).1 ∧ SlIs intE w' v6 (x.getD ([], [])).2 ∧ Below w.heap.size w w' := by
 cases x with
 | none => exact h.elim
 | some z => obtain ⟨ts, es⟩ := z; exact h
theorem rSameV_any {A1 A2 : Nat → Prop} (v1 v2 : Value) (l : List Tree) (w : World) (h1 : IsTs A1 w v1 l) (h2 : IsTs A2 w v2 l) :
  Calls Tryz.prog 20 #[v1, v2] w fun e w' => e = .returned (.bool true) ∧ Below w.heap.size w w' := by
 obtain ⟨p1, n1, c1, R1, e1, r1⟩ := h1
 obtain ⟨p2, n2, c2, R2, e2, r2⟩ := h2
 subst e1
 subst e2
 exact rSameTs_any p1 p2 n1 n2 c1 c2 l w ⟨p1, n1, c1, R1, rfl, r1⟩ ⟨p2, n2, c2, R2, rfl, r2⟩
/-- a variable that holds a node -/
structure VarN (g : Nat) (q : Raw) (t : Tree) (W : World) : Prop where
 z : W.heap[g]? = some (.cells (ndC q) 40 (0, 0))
 tree : IsT (fun _ => True) W q t
theorem VarN.on {g : Nat} {q : Raw} {t : Tree} {W W' : World} (h : VarN g q t W) (hb : Below W.heap.size W W') : VarN g q t W' := ⟨by rw [hb.block g (lt_heap h.z)]; exact h.z, h.tree.later hb⟩
theorem VarN.first {A : Nat → Prop} {q : Raw} {t : Tree} {W : World} (h : IsT A W q t) : VarN W.heap.size q t (W.alloc (.cells (ndC q) 40)) := ⟨heap_alloc_new W _, (h.mono (fun _ _ => trivial)).later (boxB W _)⟩
theorem VarN.cells {g : Nat} {q : Raw} {t : Tree} {W : World} (h : VarN g q t W) : W.cell? ⟨g, 0, none⟩ = some (.int .i64 q.kind) ∧ W.cell? ⟨g, 1, none⟩ = some (.string q.text) ∧ W.cell? ⟨g, 2, none⟩ = some (.int .i64 q.at_) ∧ W.cell? ⟨g, 3, none⟩ = some (.slice q.p q.n q.cap) :=
 ⟨by rw [Lib.cell_of_heap h.z]; rfl, by rw [Lib.cell_of_heap h.z]; rfl, by rw [Lib.cell_of_heap h.z]; rfl, by rw [Lib.cell_of_heap h.z]; rfl⟩
set_option maxRecDepth 100000 in
set_option maxHeartbeats 4000000 in
theorem agree_any (s : ByteArray) (w : World) (hs : s.size ≤ 4611686018427387904) : Calls Tryz.prog 8 #[.string s] w fun e w' => e = .returned (.bool true) ∧ Below w.heap.size w w' := by
 have H1 := Lib.hid (fun w => (parserModule_any s w hs).mono fun e w' h => h.one)
 have H2 := Lib.hid (fun w => (rModule_any s w hs).mono fun e w' h => h.one)
 have H3 := Lib.hid (fun w => (parserExpr_any s w hs).mono fun e w' h => h.one)
 have H4 := Lib.hid (fun w => (rExprTop_any s w hs).mono fun e w' h => h.one)
 have H5 := Lib.hid (fun w => (parserType_any s w hs).mono fun e w' h => h.one)
 have H6 := Lib.hid (fun w => (rTypeTop_any s w hs).mono fun e w' h => h.one)
 generalize (modOf s).getD ([], []) = M at H1 H2
 generalize hxs : (exprOf s).isSome = xb at H3 H4
 generalize hys : (typOf s).isSome = yb at H5 H6
 generalize (exprOf s).getD (.mk 0 ⟨#[]⟩ 0 []) = X at H3 H4
 generalize (typOf s).getD (.mk 0 ⟨#[]⟩ 0 []) = Y at H5 H6
 obtain ⟨ts, es⟩ := M
 clear hxs hys
 go_enter Tryz.func8, Tryz.ntmps8
 go_wp2_with fail
 refine (H1.out w).mono ?_
 rintro e w1 ⟨v5, v6, rfl, hA, hE, hb⟩
 have HB := Lib.hid hb
 have HA1 := Lib.hid hA
 have HE1 := Lib.hid hE
 clear hA hE hb H1
 go_wp2_with fail
 refine (H2.out w1).mono ?_
 rintro e w2 ⟨v7, v8, rfl, hA, hE, hb⟩
 replace HB := Lib.hid (HB.out.trans (hb.mono HB.out.size))
 replace HA1 := Lib.hid (HA1.out.later hb)
 replace HE1 := Lib.hid (HE1.out.below hb)
 have HA2 := Lib.hid hA
 have HE2 := Lib.hid hE
 clear hA hE hb H2
 try dsimp only at HA1 HA2 HE1 HE2
 go_wp2_with fail
 refine (H3.out w2).mono ?_
 rintro e w3 ⟨q1, rfl, ht, hb⟩
 replace HA1 := Lib.hid (HA1.out.later hb)
 replace HA2 := Lib.hid (HA2.out.later hb)
 replace HE1 := Lib.hid (HE1.out.below hb)
 replace HE2 := Lib.hid (HE2.out.below hb)
 replace HB := Lib.hid (HB.out.trans (hb.mono HB.out.size))
 have HV1 := Lib.hid (VarN.first ht)
 clear hb H3
 have hb := boxB w3 (.cells (ndC q1) 40)
 replace HA1 := Lib.hid (HA1.out.later hb)
 replace HA2 := Lib.hid (HA2.out.later hb)
 replace HE1 := Lib.hid (HE1.out.below hb)
 replace HE2 := Lib.hid (HE2.out.below hb)
 replace HB := Lib.hid (HB.out.trans (hb.mono HB.out.size))
 clear hb ht
 unfold ndC at HV1 HB HA1 HA2 HE1 HE2
 unfold ndC
 go_wp2_with fail
 obtain ⟨g1, hg⟩ : ∃ g, w3.heap.size = g := ⟨_, rfl⟩
 rw [hg] at HV1 ⊢
 clear hg
 generalize w3.alloc (.cells #[.int .i64 q1.kind, .string q1.text, .int .i64 q1.at_, .slice q1.p q1.n q1.cap] 40) = w4 at *
 refine (H4.out w4).mono ?_
 rintro e w5 ⟨q2, rfl, ht, hb⟩
 replace HA1 := Lib.hid (HA1.out.later hb)
 replace HA2 := Lib.hid (HA2.out.later hb)
 replace HE1 := Lib.hid (HE1.out.below hb)
 replace HE2 := Lib.hid (HE2.out.below hb)
 replace HV1 := Lib.hid (HV1.out.on hb)
 replace HB := Lib.hid (HB.out.trans (hb.mono HB.out.size))
 have HV2 := Lib.hid (VarN.first ht)
 clear hb H4
 have hb := boxB w5 (.cells (ndC q2) 40)
 replace HA1 := Lib.hid (HA1.out.later hb)
 replace HA2 := Lib.hid (HA2.out.later hb)
 replace HE1 := Lib.hid (HE1.out.below hb)
 replace HE2 := Lib.hid (HE2.out.below hb)
 replace HV1 := Lib.hid (HV1.out.on hb)
 replace HB := Lib.hid (HB.out.trans (hb.mono HB.out.size))
 clear hb ht
 unfold ndC at HV2 HB HA1 HA2 HE1 HE2 HV1
 unfold ndC
 go_wp2_with fail
 obtain ⟨g2, hg⟩ : ∃ g, w5.heap.size = g := ⟨_, rfl⟩
 rw [hg] at HV2 ⊢
 clear hg
 generalize w5.alloc (.cells #[.int .i64 q2.kind, .string q2.text, .int .i64 q2.at_, .slice q2.p q2.n q2.cap] 40) = w6 at *
 refine (H5.out w6).mono ?_
 rintro e w7 ⟨q3, rfl, ht, hb⟩
 replace HA1 := Lib.hid (HA1.out.later hb)
 replace HA2 := Lib.hid (HA2.out.later hb)
 replace HE1 := Lib.hid (HE1.out.below hb)
 replace HE2 := Lib.hid (HE2.out.below hb)
 replace HV1 := Lib.hid (HV1.out.on hb)
 replace HV2 := Lib.hid (HV2.out.on hb)
 replace HB := Lib.hid (HB.out.trans (hb.mono HB.out.size))
 have HV3 := Lib.hid (VarN.first ht)
 clear hb H5
 have hb := boxB w7 (.cells (ndC q3) 40)
 replace HA1 := Lib.hid (HA1.out.later hb)
 replace HA2 := Lib.hid (HA2.out.later hb)
 replace HE1 := Lib.hid (HE1.out.below hb)
 replace HE2 := Lib.hid (HE2.out.below hb)
 replace HV1 := Lib.hid (HV1.out.on hb)
 replace HV2 := Lib.hid (HV2.out.on hb)
 replace HB := Lib.hid (HB.out.trans (hb.mono HB.out.size))
 clear hb ht
 unfold ndC at HV3 HB HA1 HA2 HE1 HE2 HV1 HV2
 unfold ndC
 go_wp2_with fail
 obtain ⟨g3, hg⟩ : ∃ g, w7.heap.size = g := ⟨_, rfl⟩
 rw [hg] at HV3 ⊢
 clear hg
 generalize w7.alloc (.cells #[.int .i64 q3.kind, .string q3.text, .int .i64 q3.at_, .slice q3.p q3.n q3.cap] 40) = w8 at *
 refine (H6.out w8).mono ?_
 rintro e w9 ⟨q4, rfl, ht, hb⟩
 replace HA1 := Lib.hid (HA1.out.later hb)
 replace HA2 := Lib.hid (HA2.out.later hb)
 replace HE1 := Lib.hid (HE1.out.below hb)
 replace HE2 := Lib.hid (HE2.out.below hb)
 replace HV1 := Lib.hid (HV1.out.on hb)
 replace HV2 := Lib.hid (HV2.out.on hb)
 replace HV3 := Lib.hid (HV3.out.on hb)
 replace HB := Lib.hid (HB.out.trans (hb.mono HB.out.size))
 have HV4 := Lib.hid (VarN.first ht)
 clear hb H6
 have hb := boxB w9 (.cells (ndC q4) 40)
 replace HA1 := Lib.hid (HA1.out.later hb)
 replace HA2 := Lib.hid (HA2.out.later hb)
 replace HE1 := Lib.hid (HE1.out.below hb)
 replace HE2 := Lib.hid (HE2.out.below hb)
 replace HV1 := Lib.hid (HV1.out.on hb)
 replace HV2 := Lib.hid (HV2.out.on hb)
 replace HV3 := Lib.hid (HV3.out.on hb)
 replace HB := Lib.hid (HB.out.trans (hb.mono HB.out.size))
 clear hb ht
 unfold ndC at HV4 HB HA1 HA2 HE1 HE2 HV1 HV2 HV3
 unfold ndC
 go_wp2_with fail
 obtain ⟨g4, hg⟩ : ∃ g, w9.heap.size = g := ⟨_, rfl⟩
 rw [hg] at HV4 ⊢
 clear hg
 generalize w9.alloc (.cells #[.int .i64 q4.kind, .string q4.text, .int .i64 q4.at_, .slice q4.p q4.n q4.cap] 40) = w10 at *
 have HSL := Lib.hid (rSameV_any v5 v7 ts w10 HA1.out HA2.out)
 go_wp2_with fail
 refine HSL.out.mono ?_
 rintro e w20 ⟨rfl, hb⟩
 replace HE1 := Lib.hid (HE1.out.below hb)
 replace HE2 := Lib.hid (HE2.out.below hb)
 replace HV1 := Lib.hid (HV1.out.on hb)
 replace HV2 := Lib.hid (HV2.out.on hb)
 replace HV3 := Lib.hid (HV3.out.on hb)
 replace HV4 := Lib.hid (HV4.out.on hb)
 replace HB := Lib.hid (HB.out.trans (hb.mono HB.out.size))
 clear hb HSL HA1 HA2
 have HSI := Lib.hid (sameInts_any v6 v8 es w20 HE1.out HE2.out)
 obtain ⟨a0, a1, a2, a3⟩ := HV1.out.cells
 obtain ⟨b0, b1, b2, b3⟩ := HV2.out.cells
 go_wp2_with fail
 refine HSI.out.mono ?_
 rintro e w21 ⟨rfl, hb⟩
 replace HV1 := Lib.hid (HV1.out.on hb)
 replace HV2 := Lib.hid (HV2.out.on hb)
 replace HV3 := Lib.hid (HV3.out.on hb)
 replace HV4 := Lib.hid (HV4.out.on hb)
 replace HB := Lib.hid (HB.out.trans (hb.mono HB.out.size))
 clear hb HSI HE1 HE2 a0 a1 a2 a3 b0 b1 b2 b3
 obtain ⟨a0, a1, a2, a3⟩ := HV1.out.cells
 obtain ⟨b0, b1, b2, b3⟩ := HV2.out.cells
 have HS3 := Lib.hid (rSameT_any X q1 q2 w21 HV1.out.tree HV2.out.tree)
 unfold ndC at HS3
 go_wp2_with fail
 refine HS3.out.mono ?_
 rintro e w22 ⟨rfl, hb⟩
 replace HV3 := Lib.hid (HV3.out.on hb)
 replace HV4 := Lib.hid (HV4.out.on hb)
 replace HB := Lib.hid (HB.out.trans (hb.mono HB.out.size))
 clear hb HS3 HV1 HV2 a0 a1 a2 a3 b0 b1 b2 b3
 obtain ⟨a0, a1, a2, a3⟩ := HV3.out.cells
 obtain ⟨b0, b1, b2, b3⟩ := HV4.out.cells
 have HS4 := Lib.hid (rSameT_any Y q3 q4 w22 HV3.out.tree HV4.out.tree)
 unfold ndC at HS4
 go_wp2_with fail
 refine HS4.out.mono ?_
 rintro e w23 ⟨rfl, hb⟩
 replace HB := Lib.hid (HB.out.trans (hb.mono HB.out.size))
 clear hb HS4 HV3 HV4 a0 a1 a2 a3 b0 b1 b2 b3
 go_wp2_with fail
 go_ret
 exact ⟨rfl, HB.out⟩
end Go.Proofs.YtgcaeimlmkkeoaaGreat
