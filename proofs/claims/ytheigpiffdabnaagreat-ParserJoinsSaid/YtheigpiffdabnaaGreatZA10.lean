/-
  CONTRACTS: lists of nodes appended; allUpTo.
-/
import Derived.Test.YtheigpiffdabnaaGreatZA9
set_option linter.unusedSimpArgs false
set_option linter.unusedVariables false
namespace Go.Proofs.YtheigpiffdabnaaGreat
open Go Go.RowKit
theorem Nodes.row {B : Nat} {w : World} {qs : List Raw} {ts : List Tree} (cs : Array Value) (hcs : cs.toList = rawEnc.all qs) (hl : qs.length = ts.length) (h0 : 0 < qs.length) (hm : qs.length ≤ maxLen) (hB : B ≤ w.heap.size) (h : ∀ i (h1 : i < qs.length) (h2 : i < ts.length), IsT (fun b => B ≤ b) w qs[i] ts[i]) :
  Nodes B (w.alloc (.cells cs 37)) (.slice (some ⟨w.heap.size, 0, none⟩) qs.length qs.length) ts := by
 have hsz : cs.size = qs.length * 4 := by
  have := congrArg List.length hcs
  rw [rawEnc.all_length] at this
  simpa [rawEnc] using this
 refine ⟨qs, ⟨by rw [rawEnc.all_length], .inr ⟨w.heap.size, qs.length, cs, rfl, hB, heap_alloc_new w _, Nat.le_refl _, hm, by rw [hsz]; rfl, ?_⟩⟩, hl, fun i h1 h2 => ?_⟩
 ·rw [← hcs, List.take_of_length_le (by simp [hsz, rawEnc])]
 ·refine ((h i h1 h2).old.later (boxB w _)).mono (fun b hb => ⟨hb.1, fun e => ?_⟩)
  have : w.heap.size = b := by simpa [Value.ownBlock] using e
  omega
/-- append of a list of nodes -/
theorem wpList_pushL {w : World} {ops : Array Oper} {rest : List Oper} {o : Oper} {act : Act} {Q : Exit → Act → World → Prop} (hgd : o.guard = none) (s x : Operand)
  (ho : o.op = .call { callee := .builtin .append, args := #[s, x], argTypes := #[31, 31] })
  {r : Rdr} {i lv : Nat} {sf : Bool} {ws : World} {v : Value} {ts us : List Tree} {p : Option Addr} {m c : Nat} (hN : Nodes ws.heap.size w v ts) (hU : IsTs (fun b => ws.heap.size ≤ b ∧ v.ownBlock ≠ some b) w (.slice p m c) us) (hr : RdAt r i lv sf w) (hm : Mv r ws w) (hrb : r.b < ws.heap.size) (hl : ts.length + us.length ≤ 100000)
  (hs : act.eval s = v) (hx : act.eval x = .slice p m c)
  (hk : ∀ v' w', Nodes ws.heap.size w' v' (ts ++ us) → RdAt r i lv sf w' → Mv r ws w' → wpList Tryz.prog ops Q rest (act.put o.dst v') w') : wpList Tryz.prog ops Q (o :: rest) act w := by
 obtain ⟨i0, hi, hz0, hz1, hz2⟩ := info_parts infoTree
 obtain ⟨R, hown, hRl, hT⟩ := hN
 obtain ⟨p', n', c', R2, e, hsl, hp0, hA, hR2l, hT2⟩ := hU
 cases e
 obtain ⟨hn, hnc, hcm, hlies⟩ := hsl.lies
 have hms := hm.size
 have hgrow : ∀ g, v.ownBlock = some g → ws.heap.size ≤ g ∧ g < w.heap.size := by
  intro g e
  obtain ⟨_, ⟨hv, _⟩ | ⟨g', cap, cur, hv, hg, hh, _⟩⟩ := hown
  ·rw [hv] at e; simp [Value.ownBlock] at e
  ·rw [hv] at e
   simp [Value.ownBlock] at e
   subst e
   exact ⟨hg, lt_heap hh⟩
 by_cases h0 : R2 = []
 ·subst h0
  have hus : us = [] := List.eq_nil_of_length_eq_zero (by rw [← hR2l]; rfl)
  subst hus
  simp only [List.length_nil] at hn
  subst hn
  cases p with
  | none =>
   have hc0 := hp0 rfl
   subst hc0
   exact wpList_append_own_none hgd s x _ ho ws.heap.size 37 i0 4 Tryz.underlying31 hi v R.length (rawEnc.all R) hs hown hx (hk v w ⟨R, hown, by simpa using hRl, fun i a b => by simpa using hT i a (by simpa using b)⟩ hr hm)
  | some ad =>
   refine wpList_append_own_at w hgd s x 31 ho ws.heap.size 37 i0 _ 4 56 Tryz.underlying31 hi hz0 hz1 hz2 rfl (by decide) v R.length (rawEnc.all R) hs hown ad 0 c [] hx (by simp) (fun j u hu => by simp at hu) (fun u hu => by simp at hu) (by unfold maxLen; simp at hl; omega) (by simp at hl; omega) (by omega) ?_
   intro v' w' g1 g2 _ g4
   have hbut : Same (fun a => v.ownBlock = some a.block) w w' := fun a u hc hM => by
    rw [World.cell?_of_block (g2.block a.block (World.block_lt_of_cell? w _ hc) (fun e => hM e.symm))]
    exact hc
   refine hk v' w' ⟨R, by unfold OwnL; have g5 := g1; simp only [Nat.add_zero, List.append_nil] at g5; exact g5, by simpa using hRl, fun j h1 h2 => ?_⟩ (hr.grown g2 (fun g e => by have := hgrow g e; omega)) (hm.grown g2 (fun g e => (hgrow g e).1))
   have hq : j < ts.length := by simpa using h2
   have := ((hT j h1 hq).old.same hbut (fun a e q => q.1.2 e)).mono (A' := fun b => ws.heap.size ≤ b ∧ v'.ownBlock ≠ some b) (fun b hb => ⟨hb.1.1, fun e => by
    rcases g4 with g4 | g4
    ·rw [g4] at e; exact hb.1.2 e
    ·rw [g4] at e
     have h3 : w.heap.size = b := by simpa using e
     have := hb.2
     omega⟩)
   simpa using this
 ·have hpos : 0 < m := by
   have := List.length_pos_iff.2 h0
   omega
  obtain ⟨b, off, rfl, hcl⟩ := hlies hpos
  subst hn
  refine wpList_append_own_at w hgd s x 31 ho ws.heap.size 37 i0 _ 4 56 Tryz.underlying31 hi hz0 hz1 hz2 rfl (by decide) v R.length (rawEnc.all R) hs hown ⟨b, off, none⟩ R2.length c (rawEnc.all R2) hx (rawEnc.all_length R2) (fun j u hu => by rw [add_lit]; exact hcl j u hu) (rawEnc.all_one R2) (by unfold maxLen; omega) (by omega) (by omega) ?_
  intro v' w' g1 g2 _ g4
  have hown' : OwnL rawEnc 37 w' ws.heap.size v' (R ++ R2) := by
   unfold OwnL
   rw [List.length_append, rawEnc.all_append]
   exact g1
  have hbut : Same (fun a => v.ownBlock = some a.block) w w' := fun a u hc hM => by
   rw [World.cell?_of_block (g2.block a.block (World.block_lt_of_cell? w _ hc) (fun e => hM e.symm))]
   exact hc
  have keep : ∀ {qq : Raw} {tt : Tree}, IsT (fun b => ws.heap.size ≤ b ∧ v.ownBlock ≠ some b) w qq tt → IsT (fun b => ws.heap.size ≤ b ∧ v'.ownBlock ≠ some b) w' qq tt := by
   intro qq tt h
   refine (h.old.same hbut (fun a e q => q.1.2 e)).mono (fun b hb => ⟨hb.1.1, fun e => ?_⟩)
   rcases g4 with g4 | g4
   ·rw [g4] at e; exact hb.1.2 e
   ·rw [g4] at e
    have : w.heap.size = b := by simpa using e
    have := hb.2
    omega
  refine hk v' w' ⟨R ++ R2, hown', by simp [hRl, hR2l], fun j h1 h2 => ?_⟩ (hr.grown g2 (fun g e => by have := hgrow g e; omega)) (hm.grown g2 (fun g e => (hgrow g e).1))
  by_cases hj : j < R.length
  ·rw [List.getElem_append_left hj, List.getElem_append_left (by omega)]
   exact keep (hT j hj (by omega))
  ·rw [List.getElem_append_right (by omega), List.getElem_append_right (by omega)]
   have e1 : j - R.length = j - ts.length := by rw [hRl]
   have := hT2 (j - R.length) (by rw [List.length_append] at h1; omega) (by rw [List.length_append] at h2; omega)
   simp only [e1] at this ⊢
   exact keep this
/-- what stands at each round of a loop that collects nodes in a list that is returned -/
structure CollL (r : Rdr) (w : World) (lv : Nat) (s : Bool) (j : Nat) (l : List Tree) (v : Value) (W : World) : Prop where
 nodes : Nodes w.heap.size W v l
 rd : RdAt r j lv s W
 mv : Mv r w W
 few : l.length ≤ j
 rb : r.b < w.heap.size
theorem CollL.on {r : Rdr} {w : World} {lv : Nat} {s : Bool} {j j' : Nat} {l : List Tree} {v : Value} {W W' : World} (h : CollL r w lv s j l v W) (hr : RdAt r j' lv s W') (hm : Mv r W W') (hj : j ≤ j') : CollL r w lv s j' l v W' :=
 ⟨h.nodes.mv hm h.rb, hr, h.mv.trans hm, by have := h.few; omega, h.rb⟩
theorem CollL.nextOf {r : Rdr} {w : World} {lv : Nat} {s : Bool} {j : Nat} {l : List Tree} {v : Value} {W : World} (h : CollL r w lv s j l v W) : nextOf r W = j := h.rd.nextOf
set_option maxRecDepth 100000 in
set_option maxHeartbeats 2000000 in
theorem allUpTo_any (r : Rdr) (i lv : Nat) (s : Bool) (en : ByteArray) (F : FuncId) (part : PM Tree) (w : World) (h : RdAt r i lv s w) (hE : EndAt r) (hs : en.size ≠ 0) (hF : ∀ args w, (callFunc F args).run Tryz.prog w = .ok (.enter F args) w) (hup : UpS part)
  (HP : ∀ a w1, RdAt r a lv s w1 → Calls Tryz.prog F #[.pointer (some ⟨r.b, 0, none⟩)] w1 (RulePost r (part a) lv s w1)) :
  Calls Tryz.prog 68 #[.pointer (some ⟨r.b, 0, none⟩), .string en, .func (.func F) #[] #[]] w (ListPost r (allP r en part i) lv s w) := by
 have HRB : Hid (r.b < w.heap.size) := lt_heap h.cells
 have HC1 : Hid (CollL r w lv s i [] (.slice none 0 0) w) := ⟨⟨[], OwnL.isNil _ _ _ _, rfl, fun i h => absurd h (by simp)⟩, h, But.refl _ _, Nat.zero_le _, lt_heap h.cells⟩
 generalize hX0 : allP r en part i = X
 unfold allP at hX0
 have HX1 := Lib.hid hX0
 have HE := Lib.hid hE
 have HPP := Lib.hid HP
 have HUP := Lib.hid hup
 clear hX0 h hE HP hup
 go_enter Tryz.func68, Tryz.ntmps68
 go_wp2_with fail
 go_loopw [7] (fun v wr => ∃ (j f : Nat) (l : List Tree), Hid (CollL r w lv s j l v wr) ∧ r.L.length ≤ f + j ∧ Hid (allM r en part f l j = X)) (fun v wr => r.L.length - nextOf r wr)
 case atStart => exact ⟨i, r.L.length + 1, [], HC1.out, by omega, HX1.out⟩
 case round =>
  obtain ⟨j, f, l, HC, hf, HX⟩ := hrel
  clear HC1 HX1
  have hnx : nextOf r wr = j := HC.out.nextOf
  have HNX := Lib.hid hnx
  have hjl := HC.out.rd.lt
  obtain ⟨f', rfl⟩ : ∃ f', f = f' + 1 := ⟨f - 1, by omega⟩
  have HX0 : Hid (bindM (tookM r en) (fun b => match b with | true => pureM l | false => bindM part fun t => allM r en part f' (l ++ [t])) j = X) := HX
  clear HX hnx
  obtain ⟨p, cap, hve, hpc, hpb⟩ := HC.out.nodes.slice
  subst hve
  clear hpc hpb
  go_wp2_with fail
  refine (took_x r j lv s en wr HC.out.rd HE.out hs).mono ?_
  rintro e w4 ⟨b, j4, hx, rfl, hr, hm⟩
  have hj4 : j ≤ j4 := up_took r _ _ _ _ hx
  have hX4 := bindM_ok hx HX0.out
  have HC4 := Lib.hid (HC.out.on hr hm hj4)
  clear hr hm HX0 HC hx
  cases b
  ·have HX4 : Hid (bindM part (fun t => allM r en part f' (l ++ [t])) j4 = X) := hX4
   clear hX4
   go_wp2_with fail
   refine (HPP.out j4 w4 HC4.out.rd).mono ?_
   intro e w5 hp
   rcases (RulePost.two (p := part) hp) with ⟨k, hx, rfl, hm⟩ | ⟨t, j5, hx, q5, rfl, ht, hr, hm⟩
   ·have HM5 := Lib.hid (HC4.out.mv.trans hm)
    have hX := bindM_err hx HX4.out
    clear hx hm hp
    subst hX
    unfold stopAt
    go_wp2_with fail
    exact ⟨rfl, rfl, HM5.out⟩
   ·have hX5 := bindM_ok hx HX4.out
    have HX5 : Hid (allM r en part f' (l ++ [t]) j5 = X) := hX5
    have hjj : j4 < j5 := HUP.out _ _ _ hx
    have HC5 := Lib.hid (HC4.out.on hr hm (Nat.le_of_lt hjj))
    have HT5 : Hid (IsT (fun k => w.heap.size ≤ k ∧ (Value.slice p l.length cap).ownBlock ≠ some k) w5 q5 t) := ht.mono (fun b hb => ⟨Nat.le_trans HC4.out.mv.size hb, fun e => by have := HC4.out.nodes.own_lt b e; omega⟩)
    have hfew := HC4.out.few
    have hr20 := HC4.out.rd.few
    have hj4l := HC4.out.rd.lt
    unfold ndC
    clear hx ht hr hm hp HX4 HC4 hX5
    go_wp2_with (at_builtin; go_must (refine wpList_pushN (o := ⟨some 17, _, _, _, _, _⟩) rfl (.tmp 12) (.tmp 16) rfl HC5.out.nodes HT5.out HC5.out.rd HC5.out.mv HRB.out (by omega) rfl rfl rfl ?_; intro v' w' hn6 hr6 hm6; have HN6 := Lib.hid hn6; have HR6 := Lib.hid hr6; have HM6 := Lib.hid hm6; clear hn6 hr6 hm6))
    go_roundw
    case rel => exact ⟨j5, f', l ++ [t], ⟨HN6.out, HR6.out, HM6.out, by simp; omega, HRB.out⟩, by omega, HX5.out⟩
    case measure => rw [HR6.out.nextOf, HNX.out]; omega
  ·have hX : Except.ok (l, j4) = X := hX4
   clear hX4
   subst hX
   go_wp2_with fail
   go_ret
   exact ⟨_, rfl, HC4.out.nodes, HC4.out.rd, HC4.out.mv⟩
end Go.Proofs.YtheigpiffdabnaaGreat
namespace Go.Proofs.YtheigpiffdabnaaGreat
open Go Go.RowKit
theorem allM_len {r : Rdr} {en : ByteArray} {part : PM Tree} (hup : UpS part) : ∀ f l i us j, allM r en part f l i = .ok (us, j) → us.length + i ≤ l.length + j
 | 0, l, i, us, j, h => by cases h
 | f + 1, l, i, us, j, h => by
  have h' : bindM (tookM r en) (fun b => match b with | true => pureM l | false => bindM part fun t => allM r en part f (l ++ [t])) i = .ok (us, j) := h
  obtain ⟨b, j1, h1, h2⟩ := bindM_split h'
  have hj1 := up_took r en i b j1 h1
  cases b
  ·have h3 : bindM part (fun t => allM r en part f (l ++ [t])) j1 = .ok (us, j) := h2
   obtain ⟨t, j2, h4, h5⟩ := bindM_split h3
   have hj2 := hup _ _ _ h4
   have := allM_len hup f (l ++ [t]) j2 us j h5
   rw [List.length_append, List.length_cons, List.length_nil] at this
   omega
  ·have h3 : Except.ok (l, j1) = Except.ok (us, j) := h2
   simp only [Except.ok.injEq, Prod.mk.injEq] at h3
   obtain ⟨rfl, rfl⟩ := h3
   omega
theorem up_all {r : Rdr} {en : ByteArray} {part : PM Tree} (hup : UpS part) : Up (allP r en part) := fun i us j h => by
 have h1 : ∀ f l i us j, allM r en part f l i = .ok (us, j) → i ≤ j := by
  intro f
  induction f with
  | zero => intro l i us j h; cases h
  | succ f ih =>
   intro l i us j h
   have h' : bindM (tookM r en) (fun b => match b with | true => pureM l | false => bindM part fun t => allM r en part f (l ++ [t])) i = .ok (us, j) := h
   obtain ⟨b, j1, h1, h2⟩ := bindM_split h'
   have hj1 := up_took r en i b j1 h1
   cases b
   ·have h3 : bindM part (fun t => allM r en part f (l ++ [t])) j1 = .ok (us, j) := h2
    obtain ⟨t, j2, h4, h5⟩ := bindM_split h3
    have hj2 := hup _ _ _ h4
    have := ih _ _ _ _ h5
    omega
   ·have h3 : Except.ok (l, j1) = Except.ok (us, j) := h2
    simp only [Except.ok.injEq, Prod.mk.injEq] at h3
    obtain ⟨rfl, rfl⟩ := h3
    omega
 exact h1 _ _ _ _ _ h
theorem ups_sig (r : Rdr) (T : PM Tree) (h1 : Up (argsC r T)) (h2 : Up (resultP r T)) : UpS (sigM r T) := ups_bind2 (up_here r) fun a => ups_bind (ups_need r _) fun _ => up_bind (ups_name r).up fun nm => up_bind h1 fun q => up_bind h2 fun o => up_bind (ups_need r _).up fun _ => up_nd _ _ _ _
theorem ups_function (r : Rdr) (Ps T Bk : PM Tree) (h0 : Up Ps) (h1 : Up (argsC r T)) (h2 : Up (resultP r T)) (h3 : Up Bk) : UpS (functionM r Ps T Bk) := ups_bind2 (up_here r) fun a => ups_bind (ups_need r _) fun _ => up_bind (ups_name r).up fun nm => up_bind h0 fun p => up_bind h1 fun q => up_bind h2 fun o => up_bind h3 fun b => up_nd _ _ _ _
theorem up_arg {r : Rdr} {T : PM Tree} (h : Up T) : Up (argP r T) := fun i t j e => by
 unfold argP at e
 split at e
 ·split at e
  ·cases hx : T (i + 2) with
   | error k => rw [hx] at e; cases e
   | ok z =>
    obtain ⟨u, m⟩ := z
    rw [hx] at e
    simp only [Except.ok.injEq, Prod.mk.injEq] at e
    have := h _ _ _ hx
    omega
  ·cases e
 ·cases e
theorem up_result {r : Rdr} {T : PM Tree} (h : Up T) : Up (resultP r T) := fun i t j e => by
 unfold resultP at e
 split at e
 ·have := h _ _ _ e
  omega
 ·simp only [Except.ok.injEq, Prod.mk.injEq] at e
  omega
theorem up_args {r : Rdr} {be en : ByteArray} {part : PM Tree} (h : Up part) : Up (argsP r be en part) := fun i t j e => by
 unfold argsP at e
 split at e
 ·cases hx : upToP r en part (i + 1) with
  | error k => rw [hx] at e; cases e
  | ok z =>
   obtain ⟨u, m⟩ := z
   rw [hx] at e
   simp only [Except.ok.injEq, Prod.mk.injEq] at e
   have := up_upTo h _ _ _ hx
   omega
 ·cases e
/-- nodes in a list of the rule's own -/
structure NdsAt (r : Rdr) (w : World) (B : Nat) (v : Value) (ts : List Tree) (W : World) : Prop where
 nodes : Nodes B W v ts
 hB : w.heap.size < B
theorem NdsAt.mvB {r : Rdr} {w W W' : World} {B : Nat} {v : Value} {ts : List Tree} (h : NdsAt r w B v ts W) (hm : Mv r W W') (hr : r.b < w.heap.size) : NdsAt r w B v ts W' :=
 ⟨h.nodes.mv hm (by have := h.hB; omega), h.hB⟩
/-- what stands while a list of nodes is collected -/
structure CollN (r : Rdr) (w ws : World) (lv : Nat) (s : Bool) (j : Nat) (l : List Tree) (v : Value) (W : World) : Prop where
 nodes : Nodes ws.heap.size W v l
 rd : RdAt r j lv s W
 mv : Mv r ws W
 res : ResAt w W
 rb : r.b < w.heap.size
 hw : w.heap.size < ws.heap.size
theorem CollN.on {r : Rdr} {w ws : World} {lv : Nat} {s : Bool} {j j' : Nat} {l : List Tree} {v : Value} {W W' : World} (h : CollN r w ws lv s j l v W) (hr : RdAt r j' lv s W') (hm : Mv r W W') : CollN r w ws lv s j' l v W' :=
 ⟨h.nodes.mv hm (by have := h.rb; have := h.hw; omega), hr, h.mv.trans hm, h.res.mv hm h.rb, h.rb, h.hw⟩
theorem RdAt.setSelf {r : Rdr} {i lv : Nat} {s : Bool} {w : World} (h : RdAt r i lv s w) : RdAt r i lv true (w.setCell ⟨r.b, 3, none⟩ (.bool true)) :=
 h.keep (But.setCell w _ _ rfl) (heap_setCell_same w r.b 3 _ _ _ h.cells) h.lt h.deep
set_option maxRecDepth 100000 in
set_option maxHeartbeats 1000000 in
theorem fn_any (r : Rdr) (i lv : Nat) (s : Bool) (T Bk : PM Tree) (w : World) (h : RdAt r i lv s w) (hE : EndAt r)
  (HFN : ∀ a w1, RdAt r a lv s w1 → Calls Tryz.prog 63 #[.pointer (some ⟨r.b, 0, none⟩), .func (.func 64) #[] #[]] w1 (RulePost r (functionM r (paramsP r) T Bk a) lv s w1)) :
  Calls Tryz.prog 43 #[.pointer (some ⟨r.b, 0, none⟩)] w (RulePost r (functionM r (paramsP r) T Bk i) lv s w) := by
 have HRB : Hid (r.b < w.heap.size) := lt_heap h.cells
 have HR1 := Lib.hid (h.below (boxB w (.cells #[.int .i64 0, .string ⟨#[]⟩, .int .i64 0, .slice none 0 0] 37)))
 have HM1 := Lib.hid (Mv.of_below (r := r) (boxB w (.cells #[.int .i64 0, .string ⟨#[]⟩, .int .i64 0, .slice none 0 0] 37)))
 have HS1 := Lib.hid (ResAt.start w)
 generalize hX0 : functionM r (paramsP r) T Bk i = X
 have HX1 := Lib.hid hX0
 have HE := Lib.hid hE
 have HF1 := Lib.hid HFN
 clear hX0 h hE HFN
 go_enter Tryz.func43, Tryz.ntmps43
 go_wp2_with fail
 generalize w.alloc (.cells #[.int .i64 0, .string ⟨#[]⟩, .int .i64 0, .slice none 0 0] 37) = w1 at *
 refine (HF1.out i w1 HR1.out).mono ?_
 intro e w2 hp
 rcases (RulePost.two (p := functionM r (paramsP r) T Bk) hp) with ⟨k, hx, rfl, hm⟩ | ⟨t, j2, hx, q2, rfl, ht, hr, hm⟩
 ·have HM2 := Lib.hid (HM1.out.trans hm)
  have hX := hx.symm.trans HX1.out
  clear hx hm hp
  subst hX
  unfold stopAt
  go_wp2_with fail
  exact ⟨rfl, rfl, HM2.out⟩
 have HX2 := Lib.hid ((hx.symm.trans HX1.out) : Except.ok (t, j2) = X)
 have HR2 := Lib.hid hr
 have HM2 := Lib.hid (HM1.out.trans hm)
 have HS2 := Lib.hid (HS1.out.mv hm HRB.out)
 have HTt2 : Hid (IsT (fun b => w.heap.size < b) w2 q2 t) := ht.mono (fun b hb => HS1.out.up hb)
 unfold ndC
 clear hp hx ht hr hm HX1 HR1 HM1 HS1
 have HW := Lib.hid (res_world r j2 lv s w w2 q2 t HRB.out HM2.out HS2.out.z HTt2.out HR2.out)
 obtain ⟨d0, d1, d2, d3, f0⟩ := HS2.out.cells
 have hX : Except.ok (t, j2) = X := HX2.out
 clear HX2
 subst hX
 (try unfold ndC)
 go_wp2_with fail
 obtain ⟨hcell, hist, hrd, hmv⟩ := HW.out
 exact bodyPost_ret (results_cellT rfl _ _ _ ⟨w.heap.size, 0, none⟩ _ rfl (load_node _ _ q2 hcell)) rfl ⟨_, rfl, hist, hrd, hmv⟩
set_option maxRecDepth 100000 in
set_option maxHeartbeats 1000000 in
theorem fun_any (r : Rdr) (i lv : Nat) (s : Bool) (T Bk : PM Tree) (w : World) (h : RdAt r i lv s w) (hE : EndAt r)
  (HFN : ∀ a w1, RdAt r a lv s w1 → Calls Tryz.prog 63 #[.pointer (some ⟨r.b, 0, none⟩), .func (.func 81) #[] #[]] w1 (RulePost r (functionM r (noParamsP r) T Bk a) lv s w1)) :
  Calls Tryz.prog 70 #[.pointer (some ⟨r.b, 0, none⟩)] w (RulePost r (functionM r (noParamsP r) T Bk i) lv s w) := by
 have HRB : Hid (r.b < w.heap.size) := lt_heap h.cells
 have HR1 := Lib.hid (h.below (boxB w (.cells #[.int .i64 0, .string ⟨#[]⟩, .int .i64 0, .slice none 0 0] 37)))
 have HM1 := Lib.hid (Mv.of_below (r := r) (boxB w (.cells #[.int .i64 0, .string ⟨#[]⟩, .int .i64 0, .slice none 0 0] 37)))
 have HS1 := Lib.hid (ResAt.start w)
 generalize hX0 : functionM r (noParamsP r) T Bk i = X
 have HX1 := Lib.hid hX0
 have HE := Lib.hid hE
 have HF1 := Lib.hid HFN
 clear hX0 h hE HFN
 go_enter Tryz.func70, Tryz.ntmps70
 go_wp2_with fail
 generalize w.alloc (.cells #[.int .i64 0, .string ⟨#[]⟩, .int .i64 0, .slice none 0 0] 37) = w1 at *
 refine (HF1.out i w1 HR1.out).mono ?_
 intro e w2 hp
 rcases (RulePost.two (p := functionM r (noParamsP r) T Bk) hp) with ⟨k, hx, rfl, hm⟩ | ⟨t, j2, hx, q2, rfl, ht, hr, hm⟩
 ·have HM2 := Lib.hid (HM1.out.trans hm)
  have hX := hx.symm.trans HX1.out
  clear hx hm hp
  subst hX
  unfold stopAt
  go_wp2_with fail
  exact ⟨rfl, rfl, HM2.out⟩
 have HX2 := Lib.hid ((hx.symm.trans HX1.out) : Except.ok (t, j2) = X)
 have HR2 := Lib.hid hr
 have HM2 := Lib.hid (HM1.out.trans hm)
 have HS2 := Lib.hid (HS1.out.mv hm HRB.out)
 have HTt2 : Hid (IsT (fun b => w.heap.size < b) w2 q2 t) := ht.mono (fun b hb => HS1.out.up hb)
 unfold ndC
 clear hp hx ht hr hm HX1 HR1 HM1 HS1
 have HW := Lib.hid (res_world r j2 lv s w w2 q2 t HRB.out HM2.out HS2.out.z HTt2.out HR2.out)
 obtain ⟨d0, d1, d2, d3, f0⟩ := HS2.out.cells
 have hX : Except.ok (t, j2) = X := HX2.out
 clear HX2
 subst hX
 (try unfold ndC)
 go_wp2_with fail
 obtain ⟨hcell, hist, hrd, hmv⟩ := HW.out
 exact bodyPost_ret (results_cellT rfl _ _ _ ⟨w.heap.size, 0, none⟩ _ rfl (load_node _ _ q2 hcell)) rfl ⟨_, rfl, hist, hrd, hmv⟩
theorem Mv.mvB {r : Rdr} {B : Nat} {w w1 w2 : World} (h : Mv r w w1) (hm : Mv r w1 w2) (hr : r.b < B) : Mv r w w2 := But.trans h hm
set_option maxRecDepth 100000 in
set_option maxHeartbeats 1000000 in
theorem trait_any (r : Rdr) (i lv : Nat) (s : Bool) (T : PM Tree) (w : World) (h : RdAt r i lv s w) (hE : EndAt r)
  (HTY : ∀ a w1, RdAt r a lv true w1 → Calls Tryz.prog 60 #[.pointer (some ⟨r.b, 0, none⟩)] w1 (RulePost r (T a) lv true w1)) (hT : Up T) :
  Calls Tryz.prog 45 #[.pointer (some ⟨r.b, 0, none⟩)] w (RulePost r (traitM r T i) lv true w) := by
 have HRB : Hid (r.b < w.heap.size) := lt_heap h.cells
 have HR1 := Lib.hid (h.below (boxB w (.cells #[.int .i64 0, .string ⟨#[]⟩, .int .i64 0, .slice none 0 0] 37)))
 have HM1 := Lib.hid (Mv.of_below (r := r) (boxB w (.cells #[.int .i64 0, .string ⟨#[]⟩, .int .i64 0, .slice none 0 0] 37)))
 have HS1 := Lib.hid (ResAt.start w)
 generalize hX0 : traitM r T i = X
 unfold traitM at hX0
 have HX1 := Lib.hid hX0
 have HE := Lib.hid hE
 have HT1 := Lib.hid HTY
 have HUT := Lib.hid hT
 clear hX0 h hE HTY hT
 go_enter Tryz.func45, Tryz.ntmps45
 go_wp2_with fail
 have hsz : (w.alloc (.cells #[.int .i64 0, .string ⟨#[]⟩, .int .i64 0, .slice none 0 0] 37)).heap.size = w.heap.size + 1 := by simp
 generalize w.alloc (.cells #[.int .i64 0, .string ⟨#[]⟩, .int .i64 0, .slice none 0 0] 37) = w1 at *
 have HW1 := Lib.hid hsz
 clear hsz
 have HZ1 : Hid (Mv r w1 w1) := But.refl _ _
 have HM0 := HM1
 have HS0 := HS1
 refine (here_x r i lv s w1 HR1.out).mono ?_
 rintro e w2 ⟨a, j2, hx, rfl, hr, hm⟩
 have HX2 := Lib.hid (bindM_ok hx HX1.out)
 have HR2 := Lib.hid hr
 have HM2 := Lib.hid (HM1.out.trans hm)
 have HS2 := Lib.hid (HS1.out.mv hm HRB.out)
 have HZ2 := Lib.hid (HZ1.out.mvB hm HRB.out)
 clear hx hr hm HX1 HR1 HM1 HS1 HZ1
 go_wp2_with fail
 refine (need_x r j2 lv s ⟨#[116, 114, 97, 105, 116]⟩ w2 HR2.out HE.out (by decide)).mono ?_
 rintro e w3 (⟨k, hx, rfl, hm⟩ | ⟨_, j3, hx, rfl, hr, hm⟩)
 ·have HM3 := Lib.hid (HM2.out.trans hm)
  have hX := bindM_err hx HX2.out
  clear hx hm
  subst hX
  unfold stopAt
  go_wp2_with fail
  exact ⟨rfl, rfl, HM3.out⟩
 have HX3 := Lib.hid (bindM_ok hx HX2.out)
 have HR3 := Lib.hid hr
 have HM3 := Lib.hid (HM2.out.trans hm)
 have HS3 := Lib.hid (HS2.out.mv hm HRB.out)
 have HZ3 := Lib.hid (HZ2.out.mvB hm HRB.out)
 clear hx hr hm HX2 HR2 HM2 HS2 HZ2
 go_wp2_with fail
 refine (name_x r j3 lv s w3 HR3.out HE.out).mono ?_
 rintro e w4 (⟨k, hx, rfl, hm⟩ | ⟨nm, j4, hx, rfl, hr, hm⟩)
 ·have HM4 := Lib.hid (HM3.out.trans hm)
  have hX := bindM_err hx HX3.out
  clear hx hm
  subst hX
  unfold stopAt
  go_wp2_with fail
  exact ⟨rfl, rfl, HM4.out⟩
 have HX4 := Lib.hid (bindM_ok hx HX3.out)
 have HR4 := Lib.hid hr
 have HM4 := Lib.hid (HM3.out.trans hm)
 have HS4 := Lib.hid (HS3.out.mv hm HRB.out)
 have HZ4 := Lib.hid (HZ3.out.mvB hm HRB.out)
 clear hx hr hm HX3 HR3 HM3 HS3 HZ3
 go_wp2_with fail
 refine (supers_any r j4 lv s w4 HR4.out HE.out).mono ?_
 intro e w5 hp
 rcases (RulePost.two (p := supersP r) hp) with ⟨k, hx, rfl, hm⟩ | ⟨u, j5, hx, q5, rfl, ht, hr, hm⟩
 ·have HM5 := Lib.hid (HM4.out.trans hm)
  have hX := bindM_err hx HX4.out
  clear hx hm
  subst hX
  unfold stopAt
  go_wp2_with fail
  exact ⟨rfl, rfl, HM5.out⟩
 have HX5 := Lib.hid (bindM_ok hx HX4.out)
 have HR5 := Lib.hid hr
 have HM5 := Lib.hid (HM4.out.trans hm)
 have HS5 := Lib.hid (HS4.out.mv hm HRB.out)
 have HZ5 := Lib.hid (HZ4.out.mvB hm HRB.out)
 have HTu5 : Hid (IsT (fun b => w.heap.size < b) w5 q5 u) := ht.mono (fun b hb => HS4.out.up hb)
 unfold ndC
 clear hp hx ht hr hm HX4 HR4 HM4 HS4 HZ4
 obtain ⟨c0, c1, c2, c3, fz⟩ := HR5.out.c
 have X3 : ∀ o, (w5.alloc o).cell? ⟨r.b, 3, none⟩ = some (.bool s) := fun o => by rw [(boxB w5 o).cell (p := ⟨r.b, 3, none⟩) (lt_heap HR5.out.cells)]; exact c3
 have Z3 : ∀ o, (w5.alloc o).frozen? ⟨r.b, 3, none⟩ = false := fun o => by rw [(boxB w5 o).frozen (p := ⟨r.b, 3, none⟩) (lt_heap HR5.out.cells)]; exact fz 3
 have hne : ¬ w5.heap.size = r.b := by have := lt_heap HR5.out.cells; omega
 have hne2 : ¬ r.b = w5.heap.size := by have := lt_heap HR5.out.cells; omega
 have hb := boxB w5 (.cells #[.int .i64 q5.kind, .string q5.text, .int .i64 q5.at_, .slice q5.p q5.n q5.cap] 37)
 have hm : Mv r w5 (w5.alloc (.cells #[.int .i64 q5.kind, .string q5.text, .int .i64 q5.at_, .slice q5.p q5.n q5.cap] 37)) := Mv.of_below hb
 have hst : But (fun a => a.block = r.b) (w5.alloc (.cells #[.int .i64 q5.kind, .string q5.text, .int .i64 q5.at_, .slice q5.p q5.n q5.cap] 37)) ((w5.alloc (.cells #[.int .i64 q5.kind, .string q5.text, .int .i64 q5.at_, .slice q5.p q5.n q5.cap] 37)).setCell ⟨r.b, 3, none⟩ (.bool true)) := But.setCell _ _ _ rfl
 have HC6 : Hid (CollN r w w1 lv true j5 [u] (.slice (some ⟨w5.heap.size, 0, none⟩) 1 1) ((w5.alloc (.cells #[.int .i64 q5.kind, .string q5.text, .int .i64 q5.at_, .slice q5.p q5.n q5.cap] 37)).setCell ⟨r.b, 3, none⟩ (.bool true))) :=
  ⟨(Nodes.first (HTu5.out.mono (fun b hb => by have := HW1.out; omega)) (But.size HZ5.out)).mv hst (by have := HRB.out; have := HW1.out; omega), (HR5.out.below hb).setSelf, (HZ5.out.trans hm).trans hst, (HS5.out.mv hm HRB.out).mv hst HRB.out, HRB.out, by have := HW1.out; omega⟩
 have HX6 := HX5
 clear hb hm hst c0 c1 c2 c3 fz HX5 HR5 HM5 HS5 HZ5 HTu5
 go_wp2_with fail
 clear X3 Z3 hne hne2
 obtain ⟨g, hg⟩ : ∃ g, w5.heap.size = g := ⟨_, rfl⟩
 rw [hg] at HC6
 generalize (w5.alloc (.cells #[.int .i64 q5.kind, .string q5.text, .int .i64 q5.at_, .slice q5.p q5.n q5.cap] 37)).setCell ⟨r.b, 3, none⟩ (.bool true) = w6 at *
 (try rw [hg])
 clear hg
 refine (need_x r j5 lv true ⟨#[123]⟩ w6 HC6.out.rd HE.out (by decide)).mono ?_
 rintro e w7 (⟨k, hx, rfl, hm⟩ | ⟨_, j7, hx, rfl, hr, hm⟩)
 ·have HMX := Lib.hid (HM0.out.trans (HC6.out.mv.trans hm))
  have hX := bindM_err hx HX6.out
  clear hx hm
  subst hX
  unfold stopAt
  go_wp2_with fail
  exact ⟨rfl, rfl, HMX.out⟩
 have HX7 := Lib.hid (bindM_ok hx HX6.out)
 have HC7 := Lib.hid (HC6.out.on hr hm)
 clear hx hr hm HX6 HC6
 go_wp2_with fail
 refine (allUpTo_any r j7 lv true ⟨#[125]⟩ 69 (sigM r T) w7 HC7.out.rd HE.out (by decide) (fun args w => by kernel_rfl) (ups_sig r T (up_args (up_arg HUT.out)) (up_result HUT.out)) (fun a w1 h1 => sig_any r a lv true T w1 h1 HE.out HT1.out (up_arg HUT.out))).mono ?_
 intro e w8 hp
 rcases (ListPost.two (p := allP r ⟨#[125]⟩ (sigM r T)) hp) with ⟨k, hx, rfl, hm⟩ | ⟨l, j8, hx, v8, rfl, ht, hr, hm⟩
 ·have HMX := Lib.hid (HM0.out.trans (HC7.out.mv.trans hm))
  have hX := bindM_err hx HX7.out
  clear hx hm hp
  subst hX
  unfold stopAt
  go_wp2_with fail
  exact ⟨rfl, rfl, HMX.out⟩
 have HX8 := Lib.hid (bindM_ok hx HX7.out)
 have hlen : l.length + j7 ≤ 0 + j8 := allM_len (ups_sig r T (up_args (up_arg HUT.out)) (up_result HUT.out)) _ _ _ _ _ hx
 have hj20 := hr.few
 have hjl := hr.lt
 have HC8 := Lib.hid (HC7.out.on hr hm)
 have HU : Hid (IsTs (fun k => w1.heap.size ≤ k ∧ (Value.slice (some ⟨g, 0, none⟩) 1 1).ownBlock ≠ some k) w8 v8 l) := ht.list.mono (fun k hk => ⟨Nat.le_trans (But.size HC7.out.mv) hk, fun e => by have h5 := HC7.out.nodes.own_lt k e; omega⟩)
 have HRW : Hid (r.b < w1.heap.size) := Nat.lt_trans HRB.out HC7.out.hw
 have hll : 1 + l.length ≤ 100000 := by omega
 obtain ⟨pl, nl, cl, hve⟩ := ht.sliceN
 subst hve
 clear hp hx ht hr hm hlen hj20 hjl HX7 HC7
 go_wp2_with (at_builtin; go_must (refine wpList_pushL (o := ⟨some 23, _, _, _, _, _⟩) rfl (.tmp 20) (.tmp 22) rfl HC8.out.nodes HU.out HC8.out.rd HC8.out.mv HRW.out hll rfl rfl ?_; intro v' w9 hn6 hr6 hm6; have HC9 : Hid (CollN r w w1 lv true j8 ([u] ++ l) v' w9) := ⟨hn6, hr6, hm6, HS0.out.mv hm6 HRB.out, HRB.out, HC8.out.hw⟩; clear hn6 hr6 hm6; obtain ⟨p', n', cap', hve'⟩ := HC9.out.nodes.sliceN; subst hve'))
 clear HU hll HC8
 refine (node_any 6 nm a p' n' cap' w9).mono ?_
 rintro e w10 ⟨rfl, hb⟩
 have HCZ := Lib.hid (HC9.out.on (HC9.out.rd.below hb) (Mv.of_below hb))
 have HIZ : Hid (IsTs (fun b => w.heap.size < b) w10 (.slice p' n' cap') ([u] ++ l)) := HCZ.out.nodes.list.mono (fun b hb => Nat.lt_of_lt_of_le HCZ.out.hw hb)
 have HW := Lib.hid (res_world r j8 lv true w w10 ⟨6, nm, a, p', n', cap'⟩ (.mk 6 nm a ([u] ++ l)) HRB.out (HM0.out.trans HCZ.out.mv) HCZ.out.res.z (IsT.node _ _ _ HIZ.out) HCZ.out.rd)
 obtain ⟨d0, d1, d2, d3, f0⟩ := HCZ.out.res.cells
 have hX : Except.ok (.mk 6 nm a ([u] ++ l), j8) = X := HX8.out
 clear hb HX8
 subst hX
 unfold ndC
 go_wp2_with fail
 obtain ⟨hcell, hist, hrd, hmv⟩ := HW.out
 exact bodyPost_ret (results_cellT rfl _ _ _ ⟨w.heap.size, 0, none⟩ _ rfl (load_node _ _ ⟨6, nm, a, p', n', cap'⟩ hcell)) rfl ⟨_, rfl, hist, hrd, hmv⟩
theorem up_noParams (r : Rdr) : Up (noParamsP r) := fun i t j e => by
 unfold noParamsP at e
 simp only [Except.ok.injEq, Prod.mk.injEq] at e
 omega
set_option maxRecDepth 100000 in
set_option maxHeartbeats 1000000 in
theorem impl_any (r : Rdr) (i lv : Nat) (s : Bool) (T Bk : PM Tree) (w : World) (h : RdAt r i lv s w) (hE : EndAt r)
  (HFU : ∀ a w1, RdAt r a lv s w1 → Calls Tryz.prog 70 #[.pointer (some ⟨r.b, 0, none⟩)] w1 (RulePost r (functionM r (noParamsP r) T Bk a) lv s w1))
  (HTY : ∀ a w1, RdAt r a lv s w1 → Calls Tryz.prog 60 #[.pointer (some ⟨r.b, 0, none⟩)] w1 (RulePost r (T a) lv s w1)) (hT : Up T) (hB : Up Bk) :
  Calls Tryz.prog 46 #[.pointer (some ⟨r.b, 0, none⟩)] w (RulePost r (implM r T Bk i) lv s w) := by
 have HRB : Hid (r.b < w.heap.size) := lt_heap h.cells
 have HR1 := Lib.hid (h.below (boxB w (.cells #[.int .i64 0, .string ⟨#[]⟩, .int .i64 0, .slice none 0 0] 37)))
 have HM1 := Lib.hid (Mv.of_below (r := r) (boxB w (.cells #[.int .i64 0, .string ⟨#[]⟩, .int .i64 0, .slice none 0 0] 37)))
 have HS1 := Lib.hid (ResAt.start w)
 generalize hX0 : implM r T Bk i = X
 unfold implM at hX0
 have HX1 := Lib.hid hX0
 have HE := Lib.hid hE
 have HF1 := Lib.hid HFU
 have HT1 := Lib.hid HTY
 have HUT := Lib.hid hT
 have HUB := Lib.hid hB
 clear hX0 h hE HFU HTY hT hB
 go_enter Tryz.func46, Tryz.ntmps46
 go_wp2_with fail
 have hsz : (w.alloc (.cells #[.int .i64 0, .string ⟨#[]⟩, .int .i64 0, .slice none 0 0] 37)).heap.size = w.heap.size + 1 := by simp
 generalize w.alloc (.cells #[.int .i64 0, .string ⟨#[]⟩, .int .i64 0, .slice none 0 0] 37) = w1 at *
 have HW1 := Lib.hid hsz
 clear hsz
 have HZ1 : Hid (Mv r w1 w1) := But.refl _ _
 have HM0 := HM1
 have HS0 := HS1
 refine (here_x r i lv s w1 HR1.out).mono ?_
 rintro e w2 ⟨a, j2, hx, rfl, hr, hm⟩
 have HX2 := Lib.hid (bindM_ok hx HX1.out)
 have HR2 := Lib.hid hr
 have HM2 := Lib.hid (HM1.out.trans hm)
 have HS2 := Lib.hid (HS1.out.mv hm HRB.out)
 have HZ2 := Lib.hid (HZ1.out.mvB hm HRB.out)
 clear hx hr hm HX1 HR1 HM1 HS1 HZ1
 go_wp2_with fail
 refine (need_x r j2 lv s ⟨#[105, 109, 112, 108]⟩ w2 HR2.out HE.out (by decide)).mono ?_
 rintro e w3 (⟨k, hx, rfl, hm⟩ | ⟨_, j3, hx, rfl, hr, hm⟩)
 ·have HM3 := Lib.hid (HM2.out.trans hm)
  have hX := bindM_err hx HX2.out
  clear hx hm
  subst hX
  unfold stopAt
  go_wp2_with fail
  exact ⟨rfl, rfl, HM3.out⟩
 have HX3 := Lib.hid (bindM_ok hx HX2.out)
 have HR3 := Lib.hid hr
 have HM3 := Lib.hid (HM2.out.trans hm)
 have HS3 := Lib.hid (HS2.out.mv hm HRB.out)
 have HZ3 := Lib.hid (HZ2.out.mvB hm HRB.out)
 clear hx hr hm HX2 HR2 HM2 HS2 HZ2
 go_wp2_with fail
 refine (params_any r j3 lv s w3 HR3.out HE.out).mono ?_
 intro e w4 hp
 rcases (RulePost.two (p := paramsP r) hp) with ⟨k, hx, rfl, hm⟩ | ⟨p, j4, hx, q4, rfl, ht, hr, hm⟩
 ·have HM4 := Lib.hid (HM3.out.trans hm)
  have hX := bindM_err hx HX3.out
  clear hx hm
  subst hX
  unfold stopAt
  go_wp2_with fail
  exact ⟨rfl, rfl, HM4.out⟩
 have HX4 := Lib.hid (bindM_ok hx HX3.out)
 have HR4 := Lib.hid hr
 have HM4 := Lib.hid (HM3.out.trans hm)
 have HS4 := Lib.hid (HS3.out.mv hm HRB.out)
 have HZ4 := Lib.hid (HZ3.out.mvB hm HRB.out)
 have HTp4 : Hid (IsT (fun b => w.heap.size < b) w4 q4 p) := ht.mono (fun b hb => HS3.out.up hb)
 unfold ndC
 clear hp hx ht hr hm HX3 HR3 HM3 HS3 HZ3
 go_wp2_with fail
 have hb := boxB w4 (.cells #[.int .i64 q4.kind, .string q4.text, .int .i64 q4.at_, .slice q4.p q4.n q4.cap] 37)
 have hm : Mv r w4 (w4.alloc (.cells #[.int .i64 q4.kind, .string q4.text, .int .i64 q4.at_, .slice q4.p q4.n q4.cap] 37)) := Mv.of_below hb
 have HX5 := HX4
 have HR5 := Lib.hid (HR4.out.below hb)
 have HM5 := Lib.hid (HM4.out.trans hm)
 have HS5 := Lib.hid (HS4.out.mv hm HRB.out)
 have HZ5 := Lib.hid (HZ4.out.mvB hm HRB.out)
 have HTp5 := Lib.hid (HTp4.out.mvB hm HRB.out)
 have HBp5 : Hid (BoxAt r w w4.heap.size q4 (w4.alloc (.cells #[.int .i64 q4.kind, .string q4.text, .int .i64 q4.at_, .slice q4.p q4.n q4.cap] 37))) := ⟨heap_alloc_new w4 _, HS4.out.up (Nat.le_refl _), HRB.out⟩
 clear hb hm HX4 HR4 HM4 HS4 HZ4 HTp4
 have hsz : (w4.alloc (.cells #[.int .i64 q4.kind, .string q4.text, .int .i64 q4.at_, .slice q4.p q4.n q4.cap] 37)).heap.size = w4.heap.size + 1 := by simp
 obtain ⟨gp, hgp⟩ : ∃ g, w4.heap.size = g := ⟨_, rfl⟩
 rw [hgp] at HBp5 hsz
 generalize w4.alloc (.cells #[.int .i64 q4.kind, .string q4.text, .int .i64 q4.at_, .slice q4.p q4.n q4.cap] 37) = w5 at *
 rw [hgp]
 have HSZ5 := Lib.hid hsz
 clear hgp hsz
 refine (name_x r j4 lv s w5 HR5.out HE.out).mono ?_
 rintro e w6 (⟨k, hx, rfl, hm⟩ | ⟨nm, j6, hx, rfl, hr, hm⟩)
 ·have HM6 := Lib.hid (HM5.out.trans hm)
  have hX := bindM_err hx HX5.out
  clear hx hm
  subst hX
  unfold stopAt
  go_wp2_with fail
  exact ⟨rfl, rfl, HM6.out⟩
 have HX6 := Lib.hid (bindM_ok hx HX5.out)
 have HR6 := Lib.hid hr
 have HM6 := Lib.hid (HM5.out.trans hm)
 have HS6 := Lib.hid (HS5.out.mv hm HRB.out)
 have HZ6 := Lib.hid (HZ5.out.mvB hm HRB.out)
 have HTp6 := Lib.hid (HTp5.out.mvB hm HRB.out)
 have HBp6 := Lib.hid (HBp5.out.mvB hm HRB.out)
 clear hx hr hm HX5 HR5 HM5 HS5 HZ5 HTp5 HBp5
 go_wp2_with fail
 refine (need_x r j6 lv s ⟨#[102, 111, 114]⟩ w6 HR6.out HE.out (by decide)).mono ?_
 rintro e w7 (⟨k, hx, rfl, hm⟩ | ⟨_, j7, hx, rfl, hr, hm⟩)
 ·have HM7 := Lib.hid (HM6.out.trans hm)
  have hX := bindM_err hx HX6.out
  clear hx hm
  subst hX
  unfold stopAt
  go_wp2_with fail
  exact ⟨rfl, rfl, HM7.out⟩
 have HX7 := Lib.hid (bindM_ok hx HX6.out)
 have HR7 := Lib.hid hr
 have HM7 := Lib.hid (HM6.out.trans hm)
 have HS7 := Lib.hid (HS6.out.mv hm HRB.out)
 have HZ7 := Lib.hid (HZ6.out.mvB hm HRB.out)
 have HTp7 := Lib.hid (HTp6.out.mvB hm HRB.out)
 have HBp7 := Lib.hid (HBp6.out.mvB hm HRB.out)
 clear hx hr hm HX6 HR6 HM6 HS6 HZ6 HTp6 HBp6
 go_wp2_with fail
 apply wp_region_one 2 3 (fun x y => x = y) (fun x y => Mv r x y) (fun x => Mv r w7 x) (fun x => RdAt r j7 lv s x) (fun e x => ∃ k, T j7 = .error k ∧ e = stopAt k ∧ Mv r w7 x)
 case hIA => (rintro x y rfl h; exact h)
 case hIC => (intro x y hl h; exact h.trans hl)
 case hPA => (rintro x y rfl h; exact h)
 case hm => kernel_rfl
 case hB => kernel_rfl
 case h0 => exact But.drew w7
 case h1 => exact HR7.out.below (Below.drew (Below.refl _ _))
 case hP =>
  rintro k a' W ⟨k', hx, he, hm⟩ hd
  have hX := bindM_err hx HX7.out
  subst hX
  simp only [Exit.then]
  exact ⟨hd, he, HM7.out.trans hm⟩
 simp only [List.take_succ_cons, List.take_zero, List.drop_succ_cons, List.drop_zero]
 apply wpOne_cons (t := tvIs (.agg #[.int .i64 q4.kind, .string q4.text, .int .i64 q4.at_, .slice q4.p q4.n q4.cap])) (tvIs_good _ _)
 case h1 =>
  intro W hI hl
  obtain ⟨b0, b1, b2, b3⟩ := (HBp7.out.mvB hI HRB.out).cells
  unfold oneAt
  go_simp
  exact one_is (by decide)
 intro _
 rw [tvIs_f]
 go_simp
 apply wpOne_cons (t := tvIs (.pointer (some ⟨r.b, 0, none⟩))) (tvIs_good _ _)
 case h1 =>
  intro W hI hl
  unfold oneAt
  go_simp
  exact one_is (by decide)
 intro _
 rw [tvIs_f]
 go_simp
 apply wpOne_cons (t := tvRule r w7 (T) j7 lv s) tvRule_good
 case h1 =>
  intro W hI hl
  unfold oneAt
  go_simp
  exact tvRule_upon hI (HT1.out j7 W (hl.1 rfl))
 rintro ⟨q8, u8, j8⟩
 rw [tvRule_f]
 unfold ndC
 go_simp
 apply wpOne_nil (Ts := [])
 intro w8 hI hF
 have hm : Mv r w7 w8 := hI
 have hfact : T j7 = .ok (u8, j8) ∧ IsT (fun b => w7.heap.size ≤ b) w8 q8 u8 ∧ RdAt r j8 lv s w8 := hF 2
 obtain ⟨hx, ht, hr⟩ := hfact
 have HX8 := Lib.hid (bindM_ok hx HX7.out)
 have HR8 := Lib.hid hr
 have HM8 := Lib.hid (HM7.out.trans hm)
 have HS8 := Lib.hid (HS7.out.mv hm HRB.out)
 have HZ8 := Lib.hid (HZ7.out.mvB hm HRB.out)
 have HTp8 := Lib.hid (HTp7.out.mvB hm HRB.out)
 have HBp8 := Lib.hid (HBp7.out.mvB hm HRB.out)
 have HTt8 : Hid (IsT (fun b => w.heap.size < b) w8 q8 u8) := ht.mono (fun b hb => HS7.out.up hb)
 clear hI hF ht
 clear hx hr hm HX7 HR7 HM7 HS7 HZ7 HTp7 HBp7
 go_wp2_with fail
 have hb := boxB w8 (.cells #[.int .i64 q4.kind, .string q4.text, .int .i64 q4.at_, .slice q4.p q4.n q4.cap, .int .i64 q8.kind, .string q8.text, .int .i64 q8.at_, .slice q8.p q8.n q8.cap] 37)
 have hm : Mv r w8 (w8.alloc (.cells #[.int .i64 q4.kind, .string q4.text, .int .i64 q4.at_, .slice q4.p q4.n q4.cap, .int .i64 q8.kind, .string q8.text, .int .i64 q8.at_, .slice q8.p q8.n q8.cap] 37)) := Mv.of_below hb
 have hge : ∀ b, w.heap.size < b → w1.heap.size ≤ b := fun b hb => by have := HW1.out; omega
 have HC9 : Hid (CollN r w w1 lv s j8 [p, u8] (.slice (some ⟨w8.heap.size, 0, none⟩) 2 2) (w8.alloc (.cells #[.int .i64 q4.kind, .string q4.text, .int .i64 q4.at_, .slice q4.p q4.n q4.cap, .int .i64 q8.kind, .string q8.text, .int .i64 q8.at_, .slice q8.p q8.n q8.cap] 37))) :=
  ⟨Nodes.row (qs := [q4, q8]) _ rfl rfl (Nat.zero_lt_succ _) (show 2 ≤ maxLen by decide) (But.size HZ8.out) (fun i h1 h2 => by
   match i, h1, h2 with
   | 0, _, _ => exact HTp8.out.mono hge
   | 1, _, _ => exact HTt8.out.mono hge
   | i + 2, h1, _ => exact absurd h1 (by simp)), HR8.out.below hb, HZ8.out.trans hm, HS8.out.mv hm HRB.out, HRB.out, by have := HW1.out; omega⟩
 have HX9 := HX8
 clear hb hm hge HX8 HR8 HM8 HS8 HZ8 HTp8 HTt8 HBp8
 obtain ⟨g, hg⟩ : ∃ g, w8.heap.size = g := ⟨_, rfl⟩
 rw [hg] at HC9
 generalize w8.alloc (.cells #[.int .i64 q4.kind, .string q4.text, .int .i64 q4.at_, .slice q4.p q4.n q4.cap, .int .i64 q8.kind, .string q8.text, .int .i64 q8.at_, .slice q8.p q8.n q8.cap] 37) = w9 at *
 (try rw [hg])
 clear hg
 refine (need_x r j8 lv s ⟨#[123]⟩ w9 HC9.out.rd HE.out (by decide)).mono ?_
 rintro e w10 (⟨k, hx, rfl, hm⟩ | ⟨_, j10, hx, rfl, hr, hm⟩)
 ·have HMX := Lib.hid (HM0.out.trans (HC9.out.mv.trans hm))
  have hX := bindM_err hx HX9.out
  clear hx hm
  subst hX
  unfold stopAt
  go_wp2_with fail
  exact ⟨rfl, rfl, HMX.out⟩
 have HX10 := Lib.hid (bindM_ok hx HX9.out)
 have HC10 := Lib.hid (HC9.out.on hr hm)
 clear hx hr hm HX9 HC9
 go_wp2_with fail
 refine (allUpTo_any r j10 lv s ⟨#[125]⟩ 70 (functionM r (noParamsP r) T Bk) w10 HC10.out.rd HE.out (by decide) (fun args w => by kernel_rfl) (ups_function r (noParamsP r) T Bk (up_noParams r) (up_args (up_arg HUT.out)) (up_result HUT.out) HUB.out) (fun a w1 h1 => HF1.out a w1 h1)).mono ?_
 intro e w11 hp
 rcases (ListPost.two (p := allP r ⟨#[125]⟩ (functionM r (noParamsP r) T Bk)) hp) with ⟨k, hx, rfl, hm⟩ | ⟨l, j11, hx, v11, rfl, ht, hr, hm⟩
 ·have HMX := Lib.hid (HM0.out.trans (HC10.out.mv.trans hm))
  have hX := bindM_err hx HX10.out
  clear hx hm hp
  subst hX
  unfold stopAt
  go_wp2_with fail
  exact ⟨rfl, rfl, HMX.out⟩
 have HX11 := Lib.hid (bindM_ok hx HX10.out)
 have hlen : l.length + j10 ≤ 0 + j11 := allM_len (ups_function r (noParamsP r) T Bk (up_noParams r) (up_args (up_arg HUT.out)) (up_result HUT.out) HUB.out) _ _ _ _ _ hx
 have hj20 := hr.few
 have hjl := hr.lt
 have HC11 := Lib.hid (HC10.out.on hr hm)
 have HU : Hid (IsTs (fun k => w1.heap.size ≤ k ∧ (Value.slice (some ⟨g, 0, none⟩) 2 2).ownBlock ≠ some k) w11 v11 l) := ht.list.mono (fun k hk => ⟨Nat.le_trans (But.size HC10.out.mv) hk, fun e => by have h5 := HC10.out.nodes.own_lt k e; omega⟩)
 have HRW : Hid (r.b < w1.heap.size) := Nat.lt_trans HRB.out HC10.out.hw
 have hll : 2 + l.length ≤ 100000 := by omega
 obtain ⟨pl, nl, cl, hve⟩ := ht.sliceN
 subst hve
 clear hp hx ht hr hm hlen hj20 hjl HX10 HC10
 go_wp2_with (at_builtin; go_must (refine wpList_pushL (o := ⟨some 26, _, _, _, _, _⟩) rfl (.tmp 23) (.tmp 25) rfl HC11.out.nodes HU.out HC11.out.rd HC11.out.mv HRW.out hll rfl rfl ?_; intro v' w12 hn6 hr6 hm6; have HC12 : Hid (CollN r w w1 lv s j11 ([p, u8] ++ l) v' w12) := ⟨hn6, hr6, hm6, HS0.out.mv hm6 HRB.out, HRB.out, HC11.out.hw⟩; clear hn6 hr6 hm6; obtain ⟨p', n', cap', hve'⟩ := HC12.out.nodes.sliceN; subst hve'))
 clear HU hll HC11
 refine (node_any 7 nm a p' n' cap' w12).mono ?_
 rintro e w13 ⟨rfl, hb⟩
 have HCZ := Lib.hid (HC12.out.on (HC12.out.rd.below hb) (Mv.of_below hb))
 have HIZ : Hid (IsTs (fun b => w.heap.size < b) w13 (.slice p' n' cap') ([p, u8] ++ l)) := HCZ.out.nodes.list.mono (fun b hb => Nat.lt_of_lt_of_le HCZ.out.hw hb)
 have HW := Lib.hid (res_world r j11 lv s w w13 ⟨7, nm, a, p', n', cap'⟩ (.mk 7 nm a ([p, u8] ++ l)) HRB.out (HM0.out.trans HCZ.out.mv) HCZ.out.res.z (IsT.node _ _ _ HIZ.out) HCZ.out.rd)
 obtain ⟨d0, d1, d2, d3, f0⟩ := HCZ.out.res.cells
 have hX : Except.ok (.mk 7 nm a ([p, u8] ++ l), j11) = X := HX11.out
 clear hb HX11
 subst hX
 unfold ndC
 go_wp2_with fail
 obtain ⟨hcell, hist, hrd, hmv⟩ := HW.out
 exact bodyPost_ret (results_cellT rfl _ _ _ ⟨w.heap.size, 0, none⟩ _ rfl (load_node _ _ ⟨7, nm, a, p', n', cap'⟩ hcell)) rfl ⟨_, rfl, hist, hrd, hmv⟩
end Go.Proofs.YtheigpiffdabnaaGreat
