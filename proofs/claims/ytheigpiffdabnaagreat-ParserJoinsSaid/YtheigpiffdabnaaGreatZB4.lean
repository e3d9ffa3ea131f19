/-
  CONTRACTS: blocks: from expressions of less depth. The list of variables in scope lies in a block of the call's own.
-/
import Derived.Test.YtheigpiffdabnaaGreatZB3
import Derived.Maps.AppendAt
import Derived.Lib.Builder
set_option linter.unusedSimpArgs false
set_option linter.unusedVariables false
namespace Go.Proofs.YtheigpiffdabnaaGreat
open Go Go.RowKit
/-- an append of nothing that is nil -/
theorem wpList_appendT_none {ops : Array Oper} {rest : List Oper} {o : Oper} {a : Act} {Q : Exit → Act → World → Prop} {w : World} (hgd : o.guard = none) (s x : Operand)
  (ho : o.op = .call { callee := .builtin .append, args := #[s, x], argTypes := #[34, 34] })
  (base : Nat) (v : Value) (T : List ByteArray) (hs : a.eval s = v) (hown : OwnT w base v T) (c : Nat) (hx : a.eval x = .slice none 0 c)
  (h : wpList Tryz.prog ops Q rest (a.put o.dst v) w) : wpList Tryz.prog ops Q (o :: rest) a w := by
 obtain ⟨i, hi, hz, h1, h2⟩ := info_parts infoString
 refine wpList_plain hgd fun K hK => ?_
 have hrun : (Builtin.append_ #[34, 34] o.type #[v, .slice none 0 c]).run Tryz.prog w = .ok v w := by
  rcases hown.2 with ⟨rfl, _⟩ | ⟨g, cap, cur, rfl, _, _, hnc, _⟩
  ·simp [Builtin.append_, run_underlying Tryz.underlying34, sizeOf, typeInfo, hi, Builtin.lenOf, Builtin.firstCells]
  ·simp [Builtin.append_, run_underlying Tryz.underlying34, sizeOf, typeInfo, hi, Builtin.lenOf, Builtin.firstCells, hnc, storeCells]
 unfold Oper.wp
 simp [execOp, ho, resolve, invoke, builtin, hs, hx, hrun, Result.andThen]
 exact hK _ _ h
/-- the strings of a row, as a list -/
theorem strs_list {φ : ByteArray → Prop} {w : World} {p : Option Addr} : ∀ m, Strs φ w p m → ∃ V : List ByteArray, V.length = m ∧ (∀ s ∈ V, φ s) ∧ ∀ j (hj : j < V.length), ∃ b o, p = some ⟨b, o, none⟩ ∧ w.cell? ⟨b, o + j, none⟩ = some (.string V[j])
 | 0, _ => ⟨[], rfl, fun s hs => by simp at hs, fun j hj => by simp at hj⟩
 | m + 1, h => by
  obtain ⟨V, h1, h2, h3⟩ := strs_list m (fun i hi => h i (by omega))
  obtain ⟨b, o, s, hp, hc, hs⟩ := h m (by omega)
  refine ⟨V ++ [s], by simp [h1], fun x hx => ?_, fun j hj => ?_⟩
  ·rcases List.mem_append.1 hx with hx | hx
   ·exact h2 x hx
   ·simp at hx; subst hx; exact hs
  ·by_cases hlt : j < V.length
   ·obtain ⟨b', o', q1, q2⟩ := h3 j hlt
    exact ⟨b', o', q1, by rw [List.getElem_append_left hlt]; exact q2⟩
   ·have e : j = m := by simp at hj; omega
    subst e
    refine ⟨b, o, hp, ?_⟩
    rw [hc, List.getElem_append_right (by omega)]
    simp [h1]
/-- as Went, with r variables to spare -/
structure WentC (g : Made) (r : Nat) (w w' : World) : Prop where
 but : But (isMut g) w w'
 good : MadeAt g w'
 le : atOf g.d.D w ≤ atOf g.d.D w'
 credit : varsOf g.P w' + r + 2 * atOf g.d.D w ≤ varsOf g.P w + 2 * atOf g.d.D w'
theorem WentC.went {g : Made} {r : Nat} {w w' : World} (h : WentC g r w w') : Went g w w' := ⟨h.but, h.good, h.le, by have := h.credit; omega⟩
theorem WentC.trans {g : Made} {r : Nat} {a b c : World} (h : WentC g r a b) (k : Went g b c) : WentC g r a c := ⟨h.but.trans k.but, k.good, Nat.le_trans h.le k.le, by have := h.credit; have := k.credit; omega⟩
theorem WentC.less {g : Made} {r s : Nat} {a b : World} (h : WentC g r a b) (hs : s ≤ r) : WentC g s a b := ⟨h.but, h.good, h.le, by have := h.credit; omega⟩
theorem WentC.count {g : Made} {r : Nat} {a b : World} (h0 : MadeAt g a) (h : WentC g (r + 1) a b) : WentC g r a (b.setCell ⟨g.P, 6, none⟩ (.int .i64 ((varsOf g.P b : Nat) + 1))) := by
 have hb : But (isMut g) b (b.setCell ⟨g.P, 6, none⟩ (.int .i64 ((varsOf g.P b : Nat) + 1))) := But.setCell b _ _ (Or.inr rfl)
 have hv : (b.setCell ⟨g.P, 6, none⟩ (.int .i64 ((varsOf g.P b : Nat) + 1))).cell? ⟨g.P, 6, none⟩ = some (.int .i64 ((varsOf g.P b + 1 : Nat) : Int)) := by
  rw [World.cell?_setCell_same _ _ _ h.good.c6]; simp
 have hne : (⟨g.P, 6, none⟩ : Addr) ≠ ⟨g.d.D, 1, none⟩ := by intro e; injection e with e _ _; exact h.good.apart e
 have hk : (b.setCell ⟨g.P, 6, none⟩ (.int .i64 ((varsOf g.P b : Nat) + 1))).cell? ⟨g.d.D, 1, none⟩ = some (.int .i64 ((atOf g.d.D b : Nat) : Int)) := by
  rw [World.cell?_setCell_other _ _ _ _ hne]; exact h.good.dice.at_
 have hcr := h.credit
 have hc0 := h0.credit
 refine ⟨h.but.trans hb, h.good.keep hb hk h.good.dice.le hv (by omega), by rw [atOf_eq hk]; exact h.le, ?_⟩
 rw [atOf_eq hk, varsOf_eq hv]
 omega
theorem WentC.few {g : Made} {r : Nat} {a b : World} (h0 : MadeAt g a) (h : WentC g r a b) : varsOf g.P b ≤ 800 := by
 have h1 := h.good.credit
 have h2 := h.good.dice.le
 have h3 := h.good.dice.few
 omega
theorem But.then_below {M : Addr → Prop} {w a b : World} (h : But M w a) (k : Below w.heap.size a b) : But M w b :=
 ⟨k.os.trans h.os, k.tape.trans h.tape, k.output.trans h.output, Nat.le_trans h.size k.size, fun x hx hm => (k.cell hx).trans (h.cell x hx hm), fun x hx => (k.frozen hx).trans (h.frozen x hx), fun x hx hm => (k.block x hx).trans (h.block x hx hm)⟩
theorem WentC.push {g : Made} {r : Nat} {w a b : World} (h0 : MadeAt g w) (h : WentC g r w a) (k : Below w.heap.size a b) : WentC g r w b := by
 have hb := h.but.then_below k
 have e1 : b.cell? ⟨g.d.D, 1, none⟩ = a.cell? ⟨g.d.D, 1, none⟩ := k.cell (World.block_lt_of_cell? w _ h0.dice.at_)
 have e2 : b.cell? ⟨g.P, 6, none⟩ = a.cell? ⟨g.P, 6, none⟩ := k.cell (World.block_lt_of_cell? w _ h0.c6)
 have hk : b.cell? ⟨g.d.D, 1, none⟩ = some (.int .i64 ((atOf g.d.D a : Nat) : Int)) := by rw [e1]; exact h.good.dice.at_
 have hv : b.cell? ⟨g.P, 6, none⟩ = some (.int .i64 ((varsOf g.P a : Nat) : Int)) := by rw [e2]; exact h.good.c6
 refine ⟨hb, h0.keep hb hk h.good.dice.le hv h.good.credit, by rw [atOf_eq hk]; exact h.le, ?_⟩
 rw [atOf_eq hk, varsOf_eq hv]
 exact h.credit
/-- in the midst of a block: the variables in scope are T -/
structure BlkAt (g : Made) (r : Nat) (w : World) (v : Value) (T : List ByteArray) (w' : World) : Prop where
 c : WentC g r w w'
 own : OwnT w' w.heap.size v T
 short : ∀ s ∈ T, g.nm s
 beg : MadeAt g w
theorem BlkAt.low {g : Made} {r : Nat} {w : World} {v : Value} {T : List ByteArray} {a : World} (h : BlkAt g r w v T a) : ∀ x, isMut g x → x.block < w.heap.size := by
 intro x hx
 rcases hx with rfl | rfl
 ·exact World.block_lt_of_cell? w _ h.beg.dice.at_
 ·exact World.block_lt_of_cell? w _ h.beg.c6
theorem BlkAt.siz {g : Made} {r : Nat} {w : World} {v : Value} {T : List ByteArray} {a : World} (h : BlkAt g r w v T a) : w.heap.size ≤ a.heap.size := h.c.but.size
theorem BlkAt.step {g : Made} {r : Nat} {w : World} {v : Value} {T : List ByteArray} {a b : World} (h : BlkAt g r w v T a) (k : Went g a b) : BlkAt g r w v T b :=
 ⟨h.c.trans k, h.own.keep k.but h.low, h.short, h.beg⟩
theorem BlkAt.thrown {g : Made} {r : Nat} {w : World} {v : Value} {T : List ByteArray} {a b : World} (h : BlkAt g r w v T a) (k : Thrown g.d a b) : BlkAt g r w v T b := h.step (went_thrown h.c.good k)
theorem BlkAt.below {g : Made} {r : Nat} {w : World} {v : Value} {T : List ByteArray} {a b : World} (h : BlkAt g r w v T a) (k : Below a.heap.size a b) : BlkAt g r w v T b := h.step (went_below h.c.good k)
theorem BlkAt.less {g : Made} {r s : Nat} {w : World} {v : Value} {T : List ByteArray} {a : World} (h : BlkAt g r w v T a) (hs : s ≤ r) : BlkAt g s w v T a := ⟨h.c.less hs, h.own, h.short, h.beg⟩
theorem BlkAt.count {g : Made} {r : Nat} {w : World} {v : Value} {T : List ByteArray} {a : World} (h : BlkAt g (r + 1) w v T a) : BlkAt g r w v T (a.setCell ⟨g.P, 6, none⟩ (.int .i64 ((varsOf g.P a : Nat) + 1))) :=
 ⟨h.c.count h.beg, h.own.keep (M := isMut g) (But.setCell a _ _ (Or.inr rfl)) h.low, h.short, h.beg⟩
theorem BlkAt.vars {g : Made} {r : Nat} {w : World} {p : Option Addr} {n c : Nat} {T : List ByteArray} {a : World} (h : BlkAt g r w (.slice p n c) T a) : n = T.length ∧ Vars g a p n := by
 obtain ⟨q, cap, e, hc⟩ := h.own.cells
 injection e with e1 e2 e3
 subst e1
 subst e2
 refine ⟨rfl, fun i hi => ?_, fun b o e => ?_⟩
 ·obtain ⟨b, e, _, hcell⟩ := hc i hi
  exact ⟨b, 0, T[i], e, by simpa using hcell, h.short _ (List.getElem_mem _)⟩
 ·have hD := h.low ⟨g.d.D, 1, none⟩ (Or.inl rfl)
  have hP := h.low ⟨g.P, 6, none⟩ (Or.inr rfl)
  obtain ⟨hl, h2 | ⟨y, cap2, cur, hv, hg, _⟩⟩ := h.own
  ·obtain ⟨e2, _⟩ := h2
   injection e2 with e2 _ _
   rw [e2] at e; cases e
  ·injection hv with hv _ _
   rw [hv] at e
   injection e with e
   injection e with e _ _
   subst e
   simp only at hD hP
   omega
theorem BlkAt.push {g : Made} {r : Nat} {w : World} {v v2 : Value} {T : List ByteArray} {a b : World} {s : ByteArray} (h : BlkAt g r w v T a) (hs : g.nm s) (hown : OwnT b w.heap.size v2 (T ++ [s])) (hg : a.grownBy b v.ownBlock) : BlkAt g r w v2 (T ++ [s]) b :=
 ⟨h.c.push h.beg ((Below.refl w.heap.size a).grown hg h.siz (fun k hk => (World.ownsRow.lt h.own k hk).1)), hown, fun x hx => by
  rcases List.mem_append.1 hx with hx | hx
  ·exact h.short x hx
  ·simp at hx; subst hx; exact hs, h.beg⟩
theorem BlkAt.start {g : Made} {w : World} {v2 : Value} {T : List ByteArray} {b : World} (h0 : MadeAt g w) (hs : ∀ s ∈ T, g.nm s) (hown : OwnT b w.heap.size v2 T) (hb : Below w.heap.size w b) : BlkAt g 0 w v2 T b :=
 ⟨WentC.push h0 ⟨But.refl _ _, h0, Nat.le_refl _, by omega⟩ hb, hown, hs, h0⟩
theorem BlkAt.more {g : Made} {w : World} {v : Value} {T : List ByteArray} {a b : World} (h : BlkAt g 0 w v T a) (k : Thrown g.d a b) (hlt : atOf g.d.D a < atOf g.d.D b) : BlkAt g 2 w v T b := by
 have h1 := h.thrown k
 have hk := went_thrown h.c.good k
 have c1 := h.c.credit
 have c2 : varsOf g.P b = varsOf g.P a := by
  have : b.cell? ⟨g.P, 6, none⟩ = some (.int .i64 (varsOf g.P a : Nat)) := k.but.keep h.c.good.c6 (fun q => by unfold isAt at q; injection q with q1 _ _; exact h.c.good.apart q1)
  exact varsOf_eq this
 exact ⟨⟨h1.c.but, h1.c.good, h1.c.le, by omega⟩, h1.own, h1.short, h1.beg⟩
theorem wpList_appendT_any {ops : Array Oper} {rest : List Oper} {o : Oper} {a : Act} {Q : Exit → Act → World → Prop} {w : World} (hgd : o.guard = none) (s x : Operand)
  (ho : o.op = .call { callee := .builtin .append, args := #[s, x], argTypes := #[34, 34] })
  (base : Nat) (v : Value) (T : List ByteArray) (hs : a.eval s = v) (hown : OwnT w base v T) (p : Option Addr) (m c : Nat) (news : List ByteArray) (hx : a.eval x = .slice p m c) (hl : news.length = m)
  (hnews : ∀ j (hj : j < news.length), ∃ b o, p = some ⟨b, o, none⟩ ∧ w.cell? ⟨b, o + j, none⟩ = some (.string news[j])) (h63 : T.length + m ≤ 1000000) (hbase : base ≤ w.heap.size)
  (h : ∀ v' w', OwnT w' base v' (T ++ news) → Below base w w' → wpList Tryz.prog ops Q rest (a.put o.dst v') w') : wpList Tryz.prog ops Q (o :: rest) a w := by
 cases p with
 | none =>
  have hn : news = [] := by
   cases news with
   | nil => rfl
   | cons y l => obtain ⟨b, o, e, _⟩ := hnews 0 (by simp); cases e
  subst hn
  simp at hl
  subst hl
  exact wpList_appendT_none hgd s x ho base v T hs hown c hx (h v w (by simpa using hown) (Below.refl _ _))
 | some ad =>
  refine wpList_appendT hgd s x ho base v T hs hown ad m c news hx hl (fun j hj => ?_) h63 hbase ?_
  ·obtain ⟨b, o, e, hc⟩ := hnews j hj
   injection e with e
   rw [e, add_lit]
   exact hc
  ·intro v' w' h1 h2
   exact h v' w' h1 ((Below.refl base w).grown h2 hbase (fun k hk => (World.ownsRow.lt hown k hk).1))
theorem oneI_any (d : Dice) (m : Int) (w : World) (hd : DiceAt d w) (h1 : 1 ≤ m) (h2 : m ≤ 1000000) :
  Calls Tryz.prog 25 #[.pointer (some ⟨d.D, 0, none⟩), .int .i64 m] w fun e w' => ∃ k : Bool, e = .returned (.bool k) ∧ Thrown d w w' := by
 obtain ⟨y, rfl⟩ := Int.eq_ofNat_of_zero_le (by omega : 0 ≤ m)
 exact one_any d y w hd (by omega) (by omega)
theorem lit_one (w : World) (s : ByteArray) (t : TypeId) : ∀ j (hj : j < [s].length), ∃ b o, (some (⟨w.heap.size, 0, none⟩ : Addr)) = some ⟨b, o, none⟩ ∧ (w.alloc (.cells #[.string s] t)).cell? ⟨b, o + j, none⟩ = some (.string [s][j]) := by
 intro j hj
 have e : j = 0 := by simp at hj; omega
 subst e
 exact ⟨_, _, rfl, by simp [go_sem]⟩
theorem BlkAt.pushB {g : Made} {r : Nat} {w : World} {v v2 : Value} {T : List ByteArray} {a b : World} {s : ByteArray} (h : BlkAt g r w v T a) (hs : g.nm s) (hown : OwnT b w.heap.size v2 (T ++ [s])) (hb : Below w.heap.size a b) : BlkAt g r w v2 (T ++ [s]) b :=
 ⟨h.c.push h.beg hb, hown, fun x hx => by
  rcases List.mem_append.1 hx with hx | hx
  ·exact h.short x hx
  ·simp at hx; subst hx; exact hs, h.beg⟩
set_option maxRecDepth 1000000 in
set_option maxHeartbeats 20000000 in
theorem block_step (l : Nat) (dep : Int) (hd : dep ≤ 100) (BI R : Nat) (b0 : 1 ≤ BI) (b1 : BI ≤ 10000) (hI : MakesAt 24 (-1) (dep - 1) BI (fun Φ => Φ.S l)) (r1 : 3 * BI + 150 ≤ R) : MakesAt 17 0 dep R (fun Φ => Φ.K (l + 3)) := by
 intro g k p n cap w hk hk2 hg hv hn
 have e1 : IntKind.i64.wrap (k - 1) = k - 1 := IntWalk.i64_in _ (by omega)
 have c0 := hg.c0
 obtain ⟨V, hV1, hV2, hV3⟩ := strs_list n hv.1
 have HG := Lib.hid hg
 have HV1 := Lib.hid hV1
 have HV2 := Lib.hid hV2
 have HV3 := Lib.hid hV3
 have HN0 := Lib.hid (OwnT.nil w w.heap.size)
 clear hg hv hV1 hV2 hV3
 unfold Makes
 go_enter Tryz.func17, Tryz.ntmps17
 go_wp2_with (at_builtin; go_must (refine wpList_appendT_any (o := ⟨some 19, _, _, _, _, _⟩) rfl (.const (.slice none 0 0)) (.tmp 18) rfl w.heap.size _ [] rfl HN0.out _ _ _ V rfl HV1.out HV3.out (by simp; omega) (Nat.le_refl _) ?_; intro inn w1 hown1 hb1))
 have K1 := Lib.hid (BlkAt.start HG.out HV2.out (by simpa using hown1) hb1)
 clear hown1 hb1
 go_wp2_with fail
 refine (nextI_any g.d 3 _ K1.out.c.good.dice (by omega) (by omega)).mono ?_
 rintro e w2 ⟨x, hx, rfl, ht, hlt⟩
 have K2 : Hid (BlkAt g x w inn V w2) := by
  by_cases h0 : x = 0
  ·subst h0; exact K1.out.thrown ht
  ·exact (K1.out.more ht (hlt (by omega))).less (by omega)
 clear ht hlt
 have hx3 : 2 + x * (BI + 70) ≤ 2 + 2 * (BI + 70) := by have := Nat.mul_le_mul_right (BI + 70) (show x ≤ 2 by omega); omega
 go_wp2_with fail
 go_loopw [8, 9, 10, 11, 12, 13] (fun inn s n_ _ _ _ wr => ∃ (r : Nat) (T : List ByteArray) (S : ByteArray), n_ = .int .i64 (r : Nat) ∧ s = .string S ∧ Hid (BlkAt g r w inn T wr) ∧ r ≤ 2 ∧ T.length + r ≤ n + 2 ∧ S.size + r * (BI + 70) ≤ 2 + 2 * (BI + 70) ∧ Hid (g.Φ.P (l + 1) S)) (fun _ _ n_ _ _ _ _ => (intOf n_).toNat)
 case atStart => exact ⟨x, V, _, rfl, rfl, K2.out, by omega, by have := HV1.out; omega, by show 2 + x * (BI + 70) ≤ _; exact hx3, g.Φ.p_beg⟩
 case round =>
  obtain ⟨r, T, S, rfl, rfl, hblk, hr2, hT, hS, HP⟩ := hrel
  obtain ⟨p', cap', hinn, _⟩ := hblk.out.own.cells
  subst hinn
  have B0 := hblk
  clear hblk
  cases r with
  | zero =>
   have hTn : T.length ≤ 92 := by omega
   go_wp2_with fail
   refine (hI g (k - 1) p' T.length cap' _ (by omega) (by omega) B0.out.c.good B0.out.vars.2 (by omega)).mono ?_
   rintro e w3 ⟨t, ⟨ht, qt⟩, rfl, hw⟩
   have Qt := Lib.hid qt
   clear qt
   have B1 := Lib.hid (B0.out.step hw)
   clear hw
   go_wp2_with fail
   go_ret
   exact ⟨_, ⟨by simp [ByteArray.size_append, lit_size]; omega, g.Φ.k_up (g.Φ.p_fin HP.out (g.Φ.s_up Qt.out (by omega))) (by omega)⟩, rfl, B1.out.c.went⟩
  | succ r =>
   have er : ((r + 1 : Nat) : Int) = (r : Int) + 1 := by omega
   rw [er]
   have hrM : (r + 1) * (BI + 70) = r * (BI + 70) + (BI + 70) := by rw [Nat.succ_mul]
   rw [hrM] at hS
   have hr01 : r = 0 ∨ r = 1 := by omega
   have hSle : S.size ≤ 30000 := by omega
   have HRM : Hid (S.size + (r * (BI + 70) + (BI + 70)) ≤ 2 + 2 * (BI + 70)) := hS
   clear er hrM hS
   have hTn : T.length ≤ 92 := by omega
   go_wp2_with fail
   refine (nextI_any g.d 5 _ B0.out.c.good.dice (by omega) (by omega)).mono ?_
   rintro e w3 ⟨y, hy, rfl, ht, -⟩
   have B1 := Lib.hid (B0.out.thrown ht)
   clear ht B0
   rcases (by omega : y = 0 ∨ y = 1 ∨ y = 2 ∨ y = 3 ∨ y = 4) with rfl | rfl | rfl | rfl | rfl
   ·by_cases hT0 : 0 < T.length
    ·have hT0i : (0 : Int) < (T.length : Int) := by omega
     obtain ⟨b, o, _, hpp, _, _⟩ := B1.out.vars.2.1 0 (by omega)
     subst hpp
     have c6 := B1.out.c.good.c6
     have hfew := B1.out.c.few B1.out.beg
     go_wp2_with fail
     refine (digits_any _ _ (by omega)).mono ?_
     rintro e w4 ⟨dg, ⟨hdg, hdD⟩, rfl, hb⟩
     have HD := Lib.hid hdD
     clear hdD
     have B2 := Lib.hid (B1.out.below hb)
     clear c6 hb hfew
     have c6 := B2.out.c.good.c6
     have hwarm := B2.out.c.good.warm
     have hfew := B2.out.c.few B2.out.beg
     have B3 := Lib.hid B2.out.count
     go_wp2_with fail
     clear c6 hwarm
     refine (oneI_any g.d 3 _ B3.out.c.good.dice (by omega) (by omega)).mono ?_
     rintro e w5 ⟨ok, rfl, ht⟩
     have B4 := Lib.hid (B3.out.thrown ht)
     clear ht
     cases ok
     ·have _ := hk
      go_wp2_with fail
      refine (hI g (k - 1) _ T.length cap' _ (by omega) (by omega) B4.out.c.good B4.out.vars.2 (by omega)).mono ?_
      rintro e w8 ⟨t, ⟨zt, qt⟩, rfl, hw⟩
      have Qt := Lib.hid qt
      clear qt
      have B8 := Lib.hid (B4.out.step hw)
      clear hw
      go_wp2_with (at_builtin; go_must (refine wpList_appendT_any (o := ⟨some 120, _, _, _, _, _⟩) rfl (.tmp 117) (.tmp 119) rfl w.heap.size _ T rfl (B8.out.step (went_alloc B8.out.c.good _)).own _ 1 1 [(⟨#[118]⟩ ++ dg)] rfl rfl (lit_one _ _ _) (by omega) (by have := B8.out.siz; simp; omega) ?_; intro inn2 w9 hown9 hb9))
      have B9 := Lib.hid ((B8.out.step (went_alloc B8.out.c.good _)).pushB (show g.nm _ from ⟨by simp [ByteArray.size_append, lit_size]; omega, g.Φ.n_v HD.out⟩) hown9 hb9)
      clear hown9 hb9
      go_wp2_with fail
      go_roundw
      case rel => exact ⟨r, _, _, by first | rfl | go_num, rfl, B9.out, by omega, by first | omega | (simp; omega), by have := HRM.out; first | omega | (simp [ByteArray.size_append, lit_size]; omega), g.Φ.p_let HP.out (show g.nm _ from ⟨by simp [ByteArray.size_append, lit_size]; omega, g.Φ.n_v HD.out⟩).2 (g.Φ.s_up Qt.out (by omega))⟩
      case measure => simp [intOf]; try omega
     ·go_wp2_with fail
      refine (nextI_any g.d T.length _ B4.out.c.good.dice (by omega) (by omega)).mono ?_
      rintro e w6 ⟨z, hz, rfl, ht, -⟩
      have B5 := Lib.hid (B4.out.thrown ht)
      clear ht
      obtain ⟨x, hc, hxs⟩ := vars_at B5.out.vars.2 rfl (show z < T.length by omega)
      have hz0 : (z : Int) < (T.length : Int) := by omega
      have hxz : x.size ≤ 8 := hxs.1
      have c7 := B5.out.c.good.c7
      obtain hr | hr : g.macro_ = true ∨ g.macro_ = false := by cases g.macro_ <;> simp
      ·rw [hr] at c7
       clear hr
       by_cases hx : (x.toList == [101]) = true
       ·have hx' : (x.toList != [101]) = false := by simpa using hx
        go_wp2_with fail
        refine (hI g (k - 1) _ T.length cap' _ (by omega) (by omega) B5.out.c.good B5.out.vars.2 (by omega)).mono ?_
        rintro e w8 ⟨t, ⟨zt, qt⟩, rfl, hw⟩
        have Qt := Lib.hid qt
        clear qt
        have B8 := Lib.hid (B5.out.step hw)
        clear hw
        go_wp2_with (at_builtin; go_must (refine wpList_appendT_any (o := ⟨some 120, _, _, _, _, _⟩) rfl (.tmp 117) (.tmp 119) rfl w.heap.size _ T rfl (B8.out.step (went_alloc B8.out.c.good _)).own _ 1 1 [(⟨#[118]⟩ ++ dg)] rfl rfl (lit_one _ _ _) (by omega) (by have := B8.out.siz; simp; omega) ?_; intro inn2 w9 hown9 hb9))
        have B9 := Lib.hid ((B8.out.step (went_alloc B8.out.c.good _)).pushB (show g.nm _ from ⟨by simp [ByteArray.size_append, lit_size]; omega, g.Φ.n_v HD.out⟩) hown9 hb9)
        clear hown9 hb9
        go_wp2_with fail
        go_roundw
        case rel => exact ⟨r, _, _, by first | rfl | go_num, rfl, B9.out, by omega, by first | omega | (simp; omega), by have := HRM.out; first | omega | (simp [ByteArray.size_append, lit_size]; omega), g.Φ.p_let HP.out (show g.nm _ from ⟨by simp [ByteArray.size_append, lit_size]; omega, g.Φ.n_v HD.out⟩).2 (g.Φ.s_up Qt.out (by omega))⟩
        case measure => simp [intOf]; try omega
       ·have hx0 : (x.toList == [101]) = false := by simpa using hx
        have hx' : (x.toList != [101]) = true := by simpa using hx
        clear hx
        go_wp2_with fail
        refine (hI g (k - 1) _ T.length cap' _ (by omega) (by omega) B5.out.c.good B5.out.vars.2 (by omega)).mono ?_
        rintro e w8 ⟨t, ⟨zt, qt⟩, rfl, hw⟩
        have Qt := Lib.hid qt
        clear qt
        have B8 := Lib.hid (B5.out.step hw)
        clear hw
        go_wp2_with (at_builtin; go_must (refine wpList_appendT_any (o := ⟨some 120, _, _, _, _, _⟩) rfl (.tmp 117) (.tmp 119) rfl w.heap.size _ T rfl (B8.out.step (went_alloc B8.out.c.good _)).own _ 1 1 [x] rfl rfl (lit_one _ _ _) (by omega) (by have := B8.out.siz; simp; omega) ?_; intro inn2 w9 hown9 hb9))
        have B9 := Lib.hid ((B8.out.step (went_alloc B8.out.c.good _)).pushB hxs hown9 hb9)
        clear hown9 hb9
        go_wp2_with fail
        go_roundw
        case rel => exact ⟨r, _, _, by first | rfl | go_num, rfl, B9.out, by omega, by first | omega | (simp; omega), by have := HRM.out; first | omega | (simp [ByteArray.size_append, lit_size]; omega), g.Φ.p_let HP.out hxs.2 (g.Φ.s_up Qt.out (by omega))⟩
        case measure => simp [intOf]; try omega
      ·rw [hr] at c7
       clear hr
       go_wp2_with fail
       refine (hI g (k - 1) _ T.length cap' _ (by omega) (by omega) B5.out.c.good B5.out.vars.2 (by omega)).mono ?_
       rintro e w8 ⟨t, ⟨zt, qt⟩, rfl, hw⟩
       have Qt := Lib.hid qt
       clear qt
       have B8 := Lib.hid (B5.out.step hw)
       clear hw
       go_wp2_with (at_builtin; go_must (refine wpList_appendT_any (o := ⟨some 120, _, _, _, _, _⟩) rfl (.tmp 117) (.tmp 119) rfl w.heap.size _ T rfl (B8.out.step (went_alloc B8.out.c.good _)).own _ 1 1 [x] rfl rfl (lit_one _ _ _) (by omega) (by have := B8.out.siz; simp; omega) ?_; intro inn2 w9 hown9 hb9))
       have B9 := Lib.hid ((B8.out.step (went_alloc B8.out.c.good _)).pushB hxs hown9 hb9)
       clear hown9 hb9
       go_wp2_with fail
       go_roundw
       case rel => exact ⟨r, _, _, by first | rfl | go_num, rfl, B9.out, by omega, by first | omega | (simp; omega), by have := HRM.out; first | omega | (simp [ByteArray.size_append, lit_size]; omega), g.Φ.p_let HP.out hxs.2 (g.Φ.s_up Qt.out (by omega))⟩
       case measure => simp [intOf]; try omega
    ·have hT0i : (T.length : Int) ≤ 0 := by omega
     have c6 := B1.out.c.good.c6
     have hfew := B1.out.c.few B1.out.beg
     go_wp2_with fail
     refine (digits_any _ _ (by omega)).mono ?_
     rintro e w4 ⟨dg, ⟨hdg, hdD⟩, rfl, hb⟩
     have HD := Lib.hid hdD
     clear hdD
     have B2 := Lib.hid (B1.out.below hb)
     clear c6 hb hfew
     have c6 := B2.out.c.good.c6
     have hwarm := B2.out.c.good.warm
     have hfew := B2.out.c.few B2.out.beg
     have B3 := Lib.hid B2.out.count
     go_wp2_with fail
     refine (hI g (k - 1) _ T.length cap' _ (by omega) (by omega) B3.out.c.good B3.out.vars.2 (by omega)).mono ?_
     rintro e w8 ⟨t, ⟨zt, qt⟩, rfl, hw⟩
     have Qt := Lib.hid qt
     clear qt
     have B8 := Lib.hid (B3.out.step hw)
     clear hw
     go_wp2_with (at_builtin; go_must (refine wpList_appendT_any (o := ⟨some 120, _, _, _, _, _⟩) rfl (.tmp 117) (.tmp 119) rfl w.heap.size _ T rfl (B8.out.step (went_alloc B8.out.c.good _)).own _ 1 1 [(⟨#[118]⟩ ++ dg)] rfl rfl (lit_one _ _ _) (by omega) (by have := B8.out.siz; simp; omega) ?_; intro inn2 w9 hown9 hb9))
     have B9 := Lib.hid ((B8.out.step (went_alloc B8.out.c.good _)).pushB (show g.nm _ from ⟨by simp [ByteArray.size_append, lit_size]; omega, g.Φ.n_v HD.out⟩) hown9 hb9)
     clear hown9 hb9
     go_wp2_with fail
     go_roundw
     case rel => exact ⟨r, _, _, by first | rfl | go_num, rfl, B9.out, by omega, by first | omega | (simp; omega), by have := HRM.out; first | omega | (simp [ByteArray.size_append, lit_size]; omega), g.Φ.p_let HP.out (show g.nm _ from ⟨by simp [ByteArray.size_append, lit_size]; omega, g.Φ.n_v HD.out⟩).2 (g.Φ.s_up Qt.out (by omega))⟩
     case measure => simp [intOf]; try omega
   ·by_cases hT0 : 0 < T.length
    ·have hT0i : (0 : Int) < (T.length : Int) := by omega
     obtain ⟨b, o, _, hpp, _, _⟩ := B1.out.vars.2.1 0 (by omega)
     subst hpp
     have c6 := B1.out.c.good.c6
     have hfew := B1.out.c.few B1.out.beg
     go_wp2_with fail
     refine (digits_any _ _ (by omega)).mono ?_
     rintro e w4 ⟨dg, ⟨hdg, hdD⟩, rfl, hb⟩
     have HD := Lib.hid hdD
     clear hdD
     have B2 := Lib.hid (B1.out.below hb)
     clear c6 hb hfew
     have c6 := B2.out.c.good.c6
     have hwarm := B2.out.c.good.warm
     have hfew := B2.out.c.few B2.out.beg
     have B3 := Lib.hid B2.out.count
     go_wp2_with fail
     clear c6 hwarm
     refine (oneI_any g.d 3 _ B3.out.c.good.dice (by omega) (by omega)).mono ?_
     rintro e w5 ⟨ok, rfl, ht⟩
     have B4 := Lib.hid (B3.out.thrown ht)
     clear ht
     cases ok
     ·have _ := hk
      go_wp2_with fail
      refine (hI g (k - 1) _ T.length cap' _ (by omega) (by omega) B4.out.c.good B4.out.vars.2 (by omega)).mono ?_
      rintro e w8 ⟨t, ⟨zt, qt⟩, rfl, hw⟩
      have Qt := Lib.hid qt
      clear qt
      have B8 := Lib.hid (B4.out.step hw)
      clear hw
      go_wp2_with (at_builtin; go_must (refine wpList_appendT_any (o := ⟨some 120, _, _, _, _, _⟩) rfl (.tmp 117) (.tmp 119) rfl w.heap.size _ T rfl (B8.out.step (went_alloc B8.out.c.good _)).own _ 1 1 [(⟨#[118]⟩ ++ dg)] rfl rfl (lit_one _ _ _) (by omega) (by have := B8.out.siz; simp; omega) ?_; intro inn2 w9 hown9 hb9))
      have B9 := Lib.hid ((B8.out.step (went_alloc B8.out.c.good _)).pushB (show g.nm _ from ⟨by simp [ByteArray.size_append, lit_size]; omega, g.Φ.n_v HD.out⟩) hown9 hb9)
      clear hown9 hb9
      go_wp2_with fail
      go_roundw
      case rel => exact ⟨r, _, _, by first | rfl | go_num, rfl, B9.out, by omega, by first | omega | (simp; omega), by have := HRM.out; first | omega | (simp [ByteArray.size_append, lit_size]; omega), g.Φ.p_let HP.out (show g.nm _ from ⟨by simp [ByteArray.size_append, lit_size]; omega, g.Φ.n_v HD.out⟩).2 (g.Φ.s_up Qt.out (by omega))⟩
      case measure => simp [intOf]; try omega
     ·go_wp2_with fail
      refine (nextI_any g.d T.length _ B4.out.c.good.dice (by omega) (by omega)).mono ?_
      rintro e w6 ⟨z, hz, rfl, ht, -⟩
      have B5 := Lib.hid (B4.out.thrown ht)
      clear ht
      obtain ⟨x, hc, hxs⟩ := vars_at B5.out.vars.2 rfl (show z < T.length by omega)
      have hz0 : (z : Int) < (T.length : Int) := by omega
      have hxz : x.size ≤ 8 := hxs.1
      have c7 := B5.out.c.good.c7
      obtain hr | hr : g.macro_ = true ∨ g.macro_ = false := by cases g.macro_ <;> simp
      ·rw [hr] at c7
       clear hr
       by_cases hx : (x.toList == [101]) = true
       ·have hx' : (x.toList != [101]) = false := by simpa using hx
        go_wp2_with fail
        refine (hI g (k - 1) _ T.length cap' _ (by omega) (by omega) B5.out.c.good B5.out.vars.2 (by omega)).mono ?_
        rintro e w8 ⟨t, ⟨zt, qt⟩, rfl, hw⟩
        have Qt := Lib.hid qt
        clear qt
        have B8 := Lib.hid (B5.out.step hw)
        clear hw
        go_wp2_with (at_builtin; go_must (refine wpList_appendT_any (o := ⟨some 120, _, _, _, _, _⟩) rfl (.tmp 117) (.tmp 119) rfl w.heap.size _ T rfl (B8.out.step (went_alloc B8.out.c.good _)).own _ 1 1 [(⟨#[118]⟩ ++ dg)] rfl rfl (lit_one _ _ _) (by omega) (by have := B8.out.siz; simp; omega) ?_; intro inn2 w9 hown9 hb9))
        have B9 := Lib.hid ((B8.out.step (went_alloc B8.out.c.good _)).pushB (show g.nm _ from ⟨by simp [ByteArray.size_append, lit_size]; omega, g.Φ.n_v HD.out⟩) hown9 hb9)
        clear hown9 hb9
        go_wp2_with fail
        go_roundw
        case rel => exact ⟨r, _, _, by first | rfl | go_num, rfl, B9.out, by omega, by first | omega | (simp; omega), by have := HRM.out; first | omega | (simp [ByteArray.size_append, lit_size]; omega), g.Φ.p_let HP.out (show g.nm _ from ⟨by simp [ByteArray.size_append, lit_size]; omega, g.Φ.n_v HD.out⟩).2 (g.Φ.s_up Qt.out (by omega))⟩
        case measure => simp [intOf]; try omega
       ·have hx0 : (x.toList == [101]) = false := by simpa using hx
        have hx' : (x.toList != [101]) = true := by simpa using hx
        clear hx
        go_wp2_with fail
        refine (hI g (k - 1) _ T.length cap' _ (by omega) (by omega) B5.out.c.good B5.out.vars.2 (by omega)).mono ?_
        rintro e w8 ⟨t, ⟨zt, qt⟩, rfl, hw⟩
        have Qt := Lib.hid qt
        clear qt
        have B8 := Lib.hid (B5.out.step hw)
        clear hw
        go_wp2_with (at_builtin; go_must (refine wpList_appendT_any (o := ⟨some 120, _, _, _, _, _⟩) rfl (.tmp 117) (.tmp 119) rfl w.heap.size _ T rfl (B8.out.step (went_alloc B8.out.c.good _)).own _ 1 1 [x] rfl rfl (lit_one _ _ _) (by omega) (by have := B8.out.siz; simp; omega) ?_; intro inn2 w9 hown9 hb9))
        have B9 := Lib.hid ((B8.out.step (went_alloc B8.out.c.good _)).pushB hxs hown9 hb9)
        clear hown9 hb9
        go_wp2_with fail
        go_roundw
        case rel => exact ⟨r, _, _, by first | rfl | go_num, rfl, B9.out, by omega, by first | omega | (simp; omega), by have := HRM.out; first | omega | (simp [ByteArray.size_append, lit_size]; omega), g.Φ.p_let HP.out hxs.2 (g.Φ.s_up Qt.out (by omega))⟩
        case measure => simp [intOf]; try omega
      ·rw [hr] at c7
       clear hr
       go_wp2_with fail
       refine (hI g (k - 1) _ T.length cap' _ (by omega) (by omega) B5.out.c.good B5.out.vars.2 (by omega)).mono ?_
       rintro e w8 ⟨t, ⟨zt, qt⟩, rfl, hw⟩
       have Qt := Lib.hid qt
       clear qt
       have B8 := Lib.hid (B5.out.step hw)
       clear hw
       go_wp2_with (at_builtin; go_must (refine wpList_appendT_any (o := ⟨some 120, _, _, _, _, _⟩) rfl (.tmp 117) (.tmp 119) rfl w.heap.size _ T rfl (B8.out.step (went_alloc B8.out.c.good _)).own _ 1 1 [x] rfl rfl (lit_one _ _ _) (by omega) (by have := B8.out.siz; simp; omega) ?_; intro inn2 w9 hown9 hb9))
       have B9 := Lib.hid ((B8.out.step (went_alloc B8.out.c.good _)).pushB hxs hown9 hb9)
       clear hown9 hb9
       go_wp2_with fail
       go_roundw
       case rel => exact ⟨r, _, _, by first | rfl | go_num, rfl, B9.out, by omega, by first | omega | (simp; omega), by have := HRM.out; first | omega | (simp [ByteArray.size_append, lit_size]; omega), g.Φ.p_let HP.out hxs.2 (g.Φ.s_up Qt.out (by omega))⟩
       case measure => simp [intOf]; try omega
    ·have hT0i : (T.length : Int) ≤ 0 := by omega
     have c6 := B1.out.c.good.c6
     have hfew := B1.out.c.few B1.out.beg
     go_wp2_with fail
     refine (digits_any _ _ (by omega)).mono ?_
     rintro e w4 ⟨dg, ⟨hdg, hdD⟩, rfl, hb⟩
     have HD := Lib.hid hdD
     clear hdD
     have B2 := Lib.hid (B1.out.below hb)
     clear c6 hb hfew
     have c6 := B2.out.c.good.c6
     have hwarm := B2.out.c.good.warm
     have hfew := B2.out.c.few B2.out.beg
     have B3 := Lib.hid B2.out.count
     go_wp2_with fail
     refine (hI g (k - 1) _ T.length cap' _ (by omega) (by omega) B3.out.c.good B3.out.vars.2 (by omega)).mono ?_
     rintro e w8 ⟨t, ⟨zt, qt⟩, rfl, hw⟩
     have Qt := Lib.hid qt
     clear qt
     have B8 := Lib.hid (B3.out.step hw)
     clear hw
     go_wp2_with (at_builtin; go_must (refine wpList_appendT_any (o := ⟨some 120, _, _, _, _, _⟩) rfl (.tmp 117) (.tmp 119) rfl w.heap.size _ T rfl (B8.out.step (went_alloc B8.out.c.good _)).own _ 1 1 [(⟨#[118]⟩ ++ dg)] rfl rfl (lit_one _ _ _) (by omega) (by have := B8.out.siz; simp; omega) ?_; intro inn2 w9 hown9 hb9))
     have B9 := Lib.hid ((B8.out.step (went_alloc B8.out.c.good _)).pushB (show g.nm _ from ⟨by simp [ByteArray.size_append, lit_size]; omega, g.Φ.n_v HD.out⟩) hown9 hb9)
     clear hown9 hb9
     go_wp2_with fail
     go_roundw
     case rel => exact ⟨r, _, _, by first | rfl | go_num, rfl, B9.out, by omega, by first | omega | (simp; omega), by have := HRM.out; first | omega | (simp [ByteArray.size_append, lit_size]; omega), g.Φ.p_let HP.out (show g.nm _ from ⟨by simp [ByteArray.size_append, lit_size]; omega, g.Φ.n_v HD.out⟩).2 (g.Φ.s_up Qt.out (by omega))⟩
     case measure => simp [intOf]; try omega
   ·have _ := hk
    by_cases hTl : n < T.length
    ·have hTli : (n : Int) < (T.length : Int) := by omega
     obtain ⟨b, o, _, hpp, _, _⟩ := B1.out.vars.2.1 0 (by omega)
     subst hpp
     have HVV := Lib.hid B1.out.vars.2
     have HLEN : Hid ((((T.length : Nat) : Int) - 1).toNat = T.length - 1) := by show _ = _; omega
     have i3 : (1 : Int) ≤ ((T.length : Nat) : Int) := by omega
     have ew : IntKind.i64.wrap (((T.length : Nat) : Int) - 1) = ((T.length : Nat) : Int) - 1 := IntWalk.i64_in _ (by omega)
     have i1 : (0 : Int) ≤ ((T.length : Nat) : Int) - 1 := by omega
     have i2 : ((T.length : Nat) : Int) - 1 < ((T.length : Nat) : Int) := by omega
     go_wp2_with fail
     have GW := Lib.hid (went_drewN B1.out.c.good 1).good
     apply wp_region_rel (LeM.refl g) (LeM.trans g)
     case hm => kernel_rfl
     case hB => kernel_rfl
     apply wpRel_cons (t := tyIs _ _)
     case h1 => (intro w' hl hd; have gd := (hl GW.out).good; have q0 := gd.c0; clear gd hd hl; unfold relAt; go_simp; exact rel_is (LeM.refl g))
     intro _
     rw [tyIs_f]
     go_simp
     apply wpRel_cons (t := tyIs _ _)
     case h1 => (intro w' hl hd; have gd := (hl GW.out).good; have q0 := gd.c0; clear gd hd hl; unfold relAt; go_simp; exact rel_is (LeM.refl g))
     intro _
     rw [tyIs_f]
     go_simp
     apply wpRel_cons (t := tyIs _ _)
     case h1 => (intro w' hl hd; have gd := (hl GW.out).good; have q0 := gd.c0; clear gd hd hl; unfold relAt; go_simp; exact rel_is (LeM.refl g))
     intro _
     rw [tyIs_f]
     go_simp
     apply wpRel_cons (t := tyIs _ _)
     case h1 => (intro w' hl hd; have gd := (hl GW.out).good; have q0 := gd.c0; clear gd hd hl; unfold relAt; go_simp; exact rel_is (LeM.refl g))
     intro _
     rw [tyIs_f]
     go_simp
     apply wpRel_cons (t := tyIs _ _)
     case h1 => (intro w' hl hd; have gd := (hl GW.out).good; have q0 := gd.c0; clear gd hd hl; unfold relAt; go_simp; exact rel_is (LeM.refl g))
     intro _
     rw [tyIs_f]
     go_simp
     apply wpRel_cons (t := tyIs _ _)
     case h1 => (intro w' hl hd; have gd := (hl GW.out).good; have q0 := gd.c0; clear gd hd hl; unfold relAt; go_simp; exact rel_is (LeM.refl g))
     intro _
     rw [tyIs_f]
     go_simp
     apply wpRel_cons (t := tyD _ (qNm g))
     case h1 => (intro w' hl hd; have gd := (hl GW.out).good; have GD := Lib.hid gd; have HV' := Lib.hid (HVV.out.keep ((went_drewN B1.out.c.good 1).trans (hl GW.out)).but); clear gd hd hl; obtain ⟨s, hc, hs⟩ := vars_at HV'.out rfl (show T.length - 1 < T.length by omega); unfold relAt; go_simp; exact ⟨LeM.refl g _, ⟨s, hs⟩, rfl, trivial⟩)
     rintro ⟨s1, qs1⟩
     rw [tyD_f]
     go_simp
     have zs1 := ((qNm g)).le s1 qs1; simp only [Qd.cat_B, Qd.lit_B, qNm_B, qSz_B, lit_size, List.size_toArray, List.length_cons, List.length_nil] at zs1
     apply wpRel_cons (t := tyD _ (Qd.cat (qNm g) (Qd.lit ⟨#[32, 61, 32]⟩)))
     case h1 => (intro w' hl hd; have gd := (hl GW.out).good; have GD := Lib.hid gd; have HV' := Lib.hid (HVV.out.keep ((went_drewN B1.out.c.good 1).trans (hl GW.out)).but); clear gd hd hl; unfold relAt; go_simp; rw [if_neg (by first | omega | (simp only [lit_size, List.size_toArray, List.length_cons, List.length_nil]; omega))]; exact ⟨LeM.refl g _, ⟨_, Qd.cat_mk qs1 (Qd.lit_mk _)⟩, rfl, trivial⟩)
     rintro ⟨s2, qs2⟩
     rw [tyD_f]
     go_simp
     have zs2 := ((Qd.cat (qNm g) (Qd.lit ⟨#[32, 61, 32]⟩))).le s2 qs2; simp only [Qd.cat_B, Qd.lit_B, qNm_B, qSz_B, lit_size, List.size_toArray, List.length_cons, List.length_nil] at zs2
     apply wpRel_cons (t := tyIs _ _)
     case h1 => (intro w' hl hd; have gd := (hl GW.out).good; have q0 := gd.c0; clear gd hd hl; unfold relAt; go_simp; exact rel_is (LeM.refl g))
     intro _
     rw [tyIs_f]
     go_simp
     apply wpRel_cons (t := tyIs _ _)
     case h1 => (intro w' hl hd; have gd := (hl GW.out).good; have q0 := gd.c0; clear gd hd hl; unfold relAt; go_simp; exact rel_is (LeM.refl g))
     intro _
     rw [tyIs_f]
     go_simp
     apply wpRel_cons (t := tyIs _ _)
     case h1 => (intro w' hl hd; have gd := (hl GW.out).good; have q0 := gd.c0; clear gd hd hl; unfold relAt; go_simp; exact rel_is (LeM.refl g))
     intro _
     rw [tyIs_f]
     go_simp
     apply wpRel_cons (t := tyIs _ _)
     case h1 => (intro w' hl hd; have gd := (hl GW.out).good; have q0 := gd.c0; clear gd hd hl; unfold relAt; go_simp; exact rel_is (LeM.refl g))
     intro _
     rw [tyIs_f]
     go_simp
     apply wpRel_cons (t := tyD _ (qSz g BI l b0))
     case h1 => (intro w' hl hd; have gd := (hl GW.out).good; have GD := Lib.hid gd; have HV' := Lib.hid (HVV.out.keep ((went_drewN B1.out.c.good 1).trans (hl GW.out)).but); clear gd hd hl; unfold relAt; go_simp; refine ⟨LeM.refl g _, ?_⟩; refine (hI g (k - 1) _ T.length cap' _ (by omega) (by omega) GD.out HV'.out (by omega)).mono ?_; rintro e w2 ⟨s3, zs3, rfl, ht⟩; exact ⟨⟨s3, zs3⟩, rfl, fun _ => ht, trivial⟩)
     rintro ⟨s3, qs3⟩
     rw [tyD_f]
     go_simp
     have zs3 := ((qSz g BI l b0)).le s3 qs3; simp only [Qd.cat_B, Qd.lit_B, qNm_B, qSz_B, lit_size, List.size_toArray, List.length_cons, List.length_nil] at zs3
     apply wpRel_cons (t := tyD _ (Qd.cat (Qd.cat (qNm g) (Qd.lit ⟨#[32, 61, 32]⟩)) (qSz g BI l b0)))
     case h1 => (intro w' hl hd; have gd := (hl GW.out).good; have GD := Lib.hid gd; have HV' := Lib.hid (HVV.out.keep ((went_drewN B1.out.c.good 1).trans (hl GW.out)).but); clear gd hd hl; unfold relAt; go_simp; rw [if_neg (by first | omega | (simp only [lit_size, List.size_toArray, List.length_cons, List.length_nil]; omega))]; exact ⟨LeM.refl g _, ⟨_, Qd.cat_mk qs2 qs3⟩, rfl, trivial⟩)
     rintro ⟨s4, qs4⟩
     rw [tyD_f]
     go_simp
     have zs4 := ((Qd.cat (Qd.cat (qNm g) (Qd.lit ⟨#[32, 61, 32]⟩)) (qSz g BI l b0))).le s4 qs4; simp only [Qd.cat_B, Qd.lit_B, qNm_B, qSz_B, lit_size, List.size_toArray, List.length_cons, List.length_nil] at zs4
     apply wpRel_cons (t := tyD _ (Qd.cat (Qd.cat (Qd.cat (qNm g) (Qd.lit ⟨#[32, 61, 32]⟩)) (qSz g BI l b0)) (Qd.lit ⟨#[59, 32]⟩)))
     case h1 => (intro w' hl hd; have gd := (hl GW.out).good; have GD := Lib.hid gd; have HV' := Lib.hid (HVV.out.keep ((went_drewN B1.out.c.good 1).trans (hl GW.out)).but); clear gd hd hl; unfold relAt; go_simp; rw [if_neg (by first | omega | (simp only [lit_size, List.size_toArray, List.length_cons, List.length_nil]; omega))]; exact ⟨LeM.refl g _, ⟨_, Qd.cat_mk qs4 (Qd.lit_mk _)⟩, rfl, trivial⟩)
     rintro ⟨s5, qs5⟩
     rw [tyD_f]
     go_simp
     have zs5 := ((Qd.cat (Qd.cat (Qd.cat (qNm g) (Qd.lit ⟨#[32, 61, 32]⟩)) (qSz g BI l b0)) (Qd.lit ⟨#[59, 32]⟩))).le s5 qs5; simp only [Qd.cat_B, Qd.lit_B, qNm_B, qSz_B, lit_size, List.size_toArray, List.length_cons, List.length_nil] at zs5
     apply wpRel_cons (t := tyD _ (Qd.cat (Qd.lit S) (Qd.cat (Qd.cat (Qd.cat (qNm g) (Qd.lit ⟨#[32, 61, 32]⟩)) (qSz g BI l b0)) (Qd.lit ⟨#[59, 32]⟩))))
     case h1 => (intro w' hl hd; have gd := (hl GW.out).good; have GD := Lib.hid gd; have HV' := Lib.hid (HVV.out.keep ((went_drewN B1.out.c.good 1).trans (hl GW.out)).but); clear gd hd hl; unfold relAt; go_simp; rw [if_neg (by first | omega | (simp only [lit_size, List.size_toArray, List.length_cons, List.length_nil]; omega))]; exact ⟨LeM.refl g _, ⟨_, Qd.cat_mk (Qd.lit_mk S) qs5⟩, rfl, trivial⟩)
     rintro ⟨s6, qs6⟩
     rw [tyD_f]
     go_simp
     have zs6 := ((Qd.cat (Qd.lit S) (Qd.cat (Qd.cat (Qd.cat (qNm g) (Qd.lit ⟨#[32, 61, 32]⟩)) (qSz g BI l b0)) (Qd.lit ⟨#[59, 32]⟩)))).le s6 qs6; simp only [Qd.cat_B, Qd.lit_B, qNm_B, qSz_B, lit_size, List.size_toArray, List.length_cons, List.length_nil] at zs6
     apply wpRel_cons (t := tyD _ (Qd.cat (Qd.lit S) (Qd.cat (Qd.cat (Qd.cat (qNm g) (Qd.lit ⟨#[32, 61, 32]⟩)) (qSz g BI l b0)) (Qd.lit ⟨#[59, 32]⟩))))
     case h1 => (intro w' hl hd; have gd := (hl GW.out).good; have GD := Lib.hid gd; have HV' := Lib.hid (HVV.out.keep ((went_drewN B1.out.c.good 1).trans (hl GW.out)).but); clear gd hd hl; unfold relAt; go_simp; exact ⟨LeM.refl g _, ⟨_, qs6⟩, rfl, trivial⟩)
     rintro ⟨s7, qs7⟩
     rw [tyD_f]
     go_simp
     have zs7 := ((Qd.cat (Qd.lit S) (Qd.cat (Qd.cat (Qd.cat (qNm g) (Qd.lit ⟨#[32, 61, 32]⟩)) (qSz g BI l b0)) (Qd.lit ⟨#[59, 32]⟩)))).le s7 qs7; simp only [Qd.cat_B, Qd.lit_B, qNm_B, qSz_B, lit_size, List.size_toArray, List.length_cons, List.length_nil] at zs7
     obtain ⟨_, _, rfl, ⟨_, _, ⟨_, _, ⟨_, _, h1, rfl, rfl⟩, h3, rfl⟩, rfl, rfl⟩, rfl⟩ := qs7
     apply wpRel_nil (Ts := [])
     intro w8 hl _
     have B8 := Lib.hid (B1.out.step ((went_drewN B1.out.c.good 1).trans (hl GW.out)))
     clear hl
     go_wp2_with fail
     go_roundw
     case rel => exact ⟨r, T, _, by first | rfl | go_num, rfl, (B8.out.less (by omega)), by omega, by first | omega | (simp; omega), by have := HRM.out; first | omega | (simp [ByteArray.size_append, lit_size]; omega), g.Φ.p_set HP.out h1.2 (g.Φ.s_up h3.2 (by omega))⟩
     case measure => simp [intOf]; try omega
    ·have hTli : (T.length : Int) ≤ (n : Int) := by omega
     go_wp2_with fail
     go_roundw
     case rel => exact ⟨r, T, _, by first | rfl | go_num, rfl, (B1.out.less (by omega)), by omega, by first | omega | (simp; omega), by have := HRM.out; first | omega | (simp [ByteArray.size_append, lit_size]; omega), HP.out⟩
     case measure => simp [intOf]; try omega
   ·have _ := hk
    go_wp2_with fail
    refine (int0_few g 0 _ T.length cap' _ (by omega) (by omega) B1.out.c.good B1.out.vars.2 (by omega)).mono ?_
    rintro e w8 ⟨t, ⟨zt, qt⟩, rfl, hw⟩
    have Qt := Lib.hid qt
    clear qt
    have B8 := Lib.hid (B1.out.step hw)
    clear hw
    go_wp2_with fail
    go_roundw
    case rel => exact ⟨r, T, _, by first | rfl | go_num, rfl, (B8.out.less (by omega)), by omega, by first | omega | (simp; omega), by have := HRM.out; first | omega | (simp [ByteArray.size_append, lit_size]; omega), g.Φ.p_print HP.out (g.Φ.s_up (g.Φ.s_a Qt.out) (Nat.zero_le _))⟩
    case measure => simp [intOf]; try omega
   ·have _ := hk
    have c6 := B1.out.c.good.c6
    have hfew := B1.out.c.few B1.out.beg
    go_wp2_with fail
    refine (digits_any _ _ (by omega)).mono ?_
    rintro e w4 ⟨dg, ⟨hdg, hdD⟩, rfl, hb⟩
    have HD := Lib.hid hdD
    clear hdD
    have B2 := Lib.hid (B1.out.below hb)
    clear c6 hb hfew
    have c6 := B2.out.c.good.c6
    have hwarm := B2.out.c.good.warm
    have hfew := B2.out.c.few B2.out.beg
    have B3 := Lib.hid B2.out.count
    go_wp2_with fail
    clear c6 hwarm
    refine (nextI_any g.d 4 _ B3.out.c.good.dice (by omega) (by omega)).mono ?_
    rintro e w6 ⟨z, hz, rfl, ht, -⟩
    have B4 := Lib.hid (B3.out.thrown ht)
    clear ht
    go_wp2_with fail
    refine (digits_any z _ (by omega)).mono ?_
    rintro e w7 ⟨dh, ⟨hdh, hdH⟩, rfl, hb⟩
    have HH := Lib.hid hdH
    clear hdH
    have B5 := Lib.hid (B4.out.below hb)
    clear hb
    go_wp2_with fail
    refine (int0_few g 0 _ T.length cap' _ (by omega) (by omega) B5.out.c.good B5.out.vars.2 (by omega)).mono ?_
    rintro e w8 ⟨t, ⟨zt, qt⟩, rfl, hw⟩
    have Qt := Lib.hid qt
    clear qt
    have B8 := Lib.hid (B5.out.step hw)
    clear hw
    go_wp2_with fail
    go_roundw
    case rel => exact ⟨r, T, _, by first | rfl | go_num, rfl, B8.out, by omega, by first | omega | (simp; omega), by have := HRM.out; first | omega | (simp [ByteArray.size_append, lit_size]; omega), g.Φ.p_while HP.out (g.Φ.n_w HD.out) HH.out (by omega) Qt.out (by omega)⟩
    case measure => simp [intOf]; try omega
end Go.Proofs.YtheigpiffdabnaaGreat
namespace Go.Proofs.YtheigpiffdabnaaGreat
open Go Go.RowKit
theorem MakesAt.down {f : FuncId} {lo d d' : Int} {B : Nat} {Q : Gp → ByteArray → Prop} (h : MakesAt f lo d B Q) (hd : d' ≤ d) : MakesAt f lo d' B Q := fun g k p n cap w h1 h2 h3 h4 h5 => h g k p n cap w (by omega) h2 h3 h4 h5
theorem int_m1 : MakesAt 24 (-1) (0 - 1) 8 (fun Φ => Φ.S 0) := (int0_any 0).down (by omega)
theorem blk_0 : MakesAt 17 0 0 174 (fun Φ => Φ.K 3) := block_step 0 0 (by omega) 8 174 (by omega) (by omega) int_m1 (by omega)
theorem bool_0 : MakesAt 32 0 0 26 (fun Φ => Φ.E 3) := bool_step 0 0 (by omega) 8 0 26 (by omega) (by omega) int_m1 (fun h => absurd h (by omega)) (by omega) (by omega) (by omega)
theorem shown_0 : MakesAt 33 0 0 18 (fun Φ => Φ.S 3) := shown_step 0 0 (by omega) 8 0 18 (by omega) (by omega) int_m1 (fun h => absurd h (by omega)) (by omega) (by omega) (by omega)
theorem int_1 : MakesAt 24 (-1) 1 174 (fun Φ => Φ.S 6) := int_step 3 1 (by omega) (by omega) 8 26 174 18 174 (by omega) (by omega) (by omega) (by omega) (by omega) ((int0_any 3).down (by omega)) (bool_0.down (by omega)) (blk_0.down (by omega)) (shown_0.down (by omega)) (by omega) (by omega) (by omega) (by omega) (by omega)
theorem blk_1 : MakesAt 17 0 1 174 (fun Φ => Φ.K 6) := block_step 3 1 (by omega) 8 174 (by omega) (by omega) ((int0_any 3).down (by omega)) (by omega)
theorem bool_1 : MakesAt 32 0 1 42 (fun Φ => Φ.E 6) := bool_step 3 1 (by omega) 8 26 42 (by omega) (by omega) ((int0_any 3).down (by omega)) (fun _ => bool_0.down (by omega)) (by omega) (by omega) (by omega)
theorem shown_1 : MakesAt 33 0 1 27 (fun Φ => Φ.S 6) := shown_step 3 1 (by omega) 8 18 27 (by omega) (by omega) ((int0_any 3).down (by omega)) (fun _ => shown_0.down (by omega)) (by omega) (by omega) (by omega)
theorem int_2 : MakesAt 24 (-1) 2 408 (fun Φ => Φ.S 9) := int_step 6 2 (by omega) (by omega) 174 42 174 27 408 (by omega) (by omega) (by omega) (by omega) (by omega) (int_1.down (by omega)) (bool_1.down (by omega)) (blk_1.down (by omega)) (shown_1.down (by omega)) (by omega) (by omega) (by omega) (by omega) (by omega)
theorem blk_3 : MakesAt 17 0 3 1374 (fun Φ => Φ.K 12) := block_step 9 3 (by omega) 408 1374 (by omega) (by omega) (int_2.down (by omega)) (by omega)
end Go.Proofs.YtheigpiffdabnaaGreat
namespace Go.Proofs.YtheigpiffdabnaaGreat
open Go Go.RowKit
/-- a list of short strings in a block from ob on -/
def Lst (φ : ByteArray → Prop) (ob : Nat) (w : World) (p : Option Addr) (n c : Nat) : Prop := ∃ F : List ByteArray, F.length = n ∧ (∀ s ∈ F, φ s) ∧ OwnT w ob (.slice p n c) F
def other (v u : Value) : Prop := v.ownBlock = none ∨ v.ownBlock ≠ u.ownBlock
structure ProgAt (ob c : Nat) (g : Made) (w : World) : Prop where
 made : MadeAt g w
 low : g.d.D < g.P
 row : ∀ b o, g.d.p = some ⟨b, o, none⟩ → b < g.P
 pob : g.P < ob
 warm : ∀ i, w.frozen? ⟨g.P, i, none⟩ = false
 siz : ob ≤ w.heap.size
 l1 : Lst g.nm ob w g.fp g.fn g.fc
 l2 : Lst g.nm ob w g.cp g.cn g.cc
 l3 : Lst g.nm ob w g.mp g.mn g.mc
 o12 : other (.slice g.fp g.fn g.fc) (.slice g.cp g.cn g.cc)
 o13 : other (.slice g.fp g.fn g.fc) (.slice g.mp g.mn g.mc)
 o21 : other (.slice g.cp g.cn g.cc) (.slice g.fp g.fn g.fc)
 o23 : other (.slice g.cp g.cn g.cc) (.slice g.mp g.mn g.mc)
 o31 : other (.slice g.mp g.mn g.mc) (.slice g.fp g.fn g.fc)
 o32 : other (.slice g.mp g.mn g.mc) (.slice g.cp g.cn g.cc)
 cnt : g.fn + g.cn + g.mn ≤ c
 few : c ≤ 90
/-- what stays: all blocks below ob but the program's and the dice's, and of these all but the count -/
structure Fr (ob D P : Nat) (w w' : World) : Prop where
 os : w'.os = w.os
 tape : w'.tape = w.tape
 output : w'.output = w.output
 size : w.heap.size ≤ w'.heap.size
 block : ∀ k, k < ob → k ≠ P → k ≠ D → w'.heap[k]? = w.heap[k]?
 dcell : ∀ a : Addr, a.block = D → a ≠ ⟨D, 1, none⟩ → w'.cell? a = w.cell? a
 dfrozen : ∀ a : Addr, a.block = D → w'.frozen? a = w.frozen? a
theorem Fr.refl (ob D P : Nat) (w : World) : Fr ob D P w w := ⟨rfl, rfl, rfl, Nat.le_refl _, fun _ _ _ _ => rfl, fun _ _ _ => rfl, fun _ _ => rfl⟩
theorem Fr.trans {ob D P : Nat} {a b c : World} (h : Fr ob D P a b) (k : Fr ob D P b c) : Fr ob D P a c :=
 ⟨k.os.trans h.os, k.tape.trans h.tape, k.output.trans h.output, Nat.le_trans h.size k.size, fun x h1 h2 h3 => (k.block x h1 h2 h3).trans (h.block x h1 h2 h3), fun x h1 h2 => (k.dcell x h1 h2).trans (h.dcell x h1 h2), fun x h1 => (k.dfrozen x h1).trans (h.dfrozen x h1)⟩
theorem Fr.cast {ob D P D' P' : Nat} {w w' : World} (e1 : D = D') (e2 : P = P') (h : Fr ob D P w w') : Fr ob D' P' w w' := by subst e1; subst e2; exact h
/-- below the program's block, and a row from ob on, and the program's block itself: nothing else was written -/
theorem Fr.of_blocks {ob D P : Nat} {w w' : World} (h1 : w'.os = w.os) (h2 : w'.tape = w.tape) (h3 : w'.output = w.output) (h4 : w.heap.size ≤ w'.heap.size) (hb : ∀ k, k < ob → k ≠ P → w'.heap[k]? = w.heap[k]?) (hD : D < ob) (hDP : D ≠ P) : Fr ob D P w w' :=
 ⟨h1, h2, h3, h4, fun k a b _ => hb k a b, fun a e _ => World.cell?_of_block (by rw [e]; exact hb D hD hDP), fun a e => World.frozen?_of_block (by rw [e]; exact hb D hD hDP)⟩
theorem Fr.went {ob c : Nat} {g : Made} {w w' : World} (h : ProgAt ob c g w) (k : Went g w w') : Fr ob g.d.D g.P w w' := by
 have hD := World.block_lt_of_cell? w _ h.made.dice.at_
 have hs := h.siz
 simp only at hD
 refine ⟨k.but.os, k.but.tape, k.but.output, k.but.size, fun x h1 h2 h3 => k.but.block x (by omega) (fun a ha q => ?_), fun a e hne => k.but.cell a (by omega) (fun q => ?_), fun a e => k.but.frozen a (by omega)⟩
 ·rcases q with rfl | rfl
  ·exact h3 ha.symm
  ·exact h2 ha.symm
 ·rcases q with q | rfl
  ·exact hne q
  ·have := h.low; simp only at e; omega
theorem Lst.keep {φ : ByteArray → Prop} {ob : Nat} {M : Addr → Prop} {w w' : World} {p : Option Addr} {n c : Nat} (h : Lst φ ob w p n c) (hb : But M w w') (hm : ∀ a, M a → a.block < ob) : Lst φ ob w' p n c := by
 obtain ⟨F, h1, h2, h3⟩ := h
 exact ⟨F, h1, h2, h3.keep hb hm⟩
theorem ProgAt.went {ob c : Nat} {g : Made} {w w' : World} (h : ProgAt ob c g w) (k : Went g w w') : ProgAt ob c g w' := by
 have hm : ∀ a, isMut g a → a.block < ob := by
  intro a q
  have h1 := h.low
  have h2 := h.pob
  rcases q with rfl | rfl
  ·show g.d.D < ob; omega
  ·exact h2
 exact ⟨k.good, h.low, h.row, h.pob, fun i => (k.but.frozen ⟨g.P, i, none⟩ (World.block_lt_of_cell? w _ h.made.c6 : g.P < w.heap.size)).trans (h.warm i), Nat.le_trans h.siz k.but.size, h.l1.keep k.but hm, h.l2.keep k.but hm, h.l3.keep k.but hm, h.o12, h.o13, h.o21, h.o23, h.o31, h.o32, h.cnt, h.few⟩
theorem Lst.vars {ob : Nat} {w : World} {p : Option Addr} {n c : Nat} {g : Made} (h : Lst g.nm ob w p n c) (h1 : g.d.D < ob) (h2 : g.P < ob) : Vars g w p n := by
 obtain ⟨F, hF, hS, h3⟩ := h
 subst hF
 obtain ⟨q, cap, e, hc⟩ := h3.cells
 injection e with e1 e2 e3
 subst e1
 refine ⟨fun i hi => ?_, fun b o e => ?_⟩
 ·obtain ⟨b, e, _, hcell⟩ := hc i hi
  exact ⟨b, 0, F[i], e, by simpa using hcell, hS _ (List.getElem_mem _)⟩
 ·obtain ⟨hl, h2 | ⟨y, cap2, cur, hv, hg, _⟩⟩ := h3
  ·obtain ⟨e2, _⟩ := h2
   injection e2 with e2 _ _
   rw [e2] at e; cases e
  ·injection hv with hv _ _
   rw [hv] at e
   injection e with e
   injection e with e _ _
   omega
/-- the value of a field of the program -/
def cellOf (g : Made) : Nat → Value
 | 1 => .slice g.fp g.fn g.fc
 | 2 => .slice g.cp g.cn g.cc
 | 3 => .slice g.mp g.mn g.mc
 | 4 => .bool g.records
 | 5 => .bool g.shows
 | _ => .bool g.macro_
theorem MadeAt.cells {g : Made} {w : World} (h : MadeAt g w) : w.cell? ⟨g.P, 1, none⟩ = some (cellOf g 1) ∧ w.cell? ⟨g.P, 2, none⟩ = some (cellOf g 2) ∧ w.cell? ⟨g.P, 3, none⟩ = some (cellOf g 3) ∧ w.cell? ⟨g.P, 4, none⟩ = some (cellOf g 4) ∧ w.cell? ⟨g.P, 5, none⟩ = some (cellOf g 5) ∧ w.cell? ⟨g.P, 7, none⟩ = some (cellOf g 7) :=
 ⟨h.c1, h.c2, h.c3, h.c4, h.c5, h.c7⟩
/-- blocks from ob on have come or grown, and a field of the program is set -/
theorem ProgAt.put {ob c c2 : Nat} {g g' : Made} {w w1 : World} {j : Nat} (h : ProgAt ob c g w) (hb : Below ob w w1) (hj : j = 1 ∨ j = 2 ∨ j = 3 ∨ j = 4 ∨ j = 5 ∨ j = 7) (hd : g'.d = g.d) (hP : g'.P = g.P)
  (hsame : ∀ i, i ≠ j → (i = 1 ∨ i = 2 ∨ i = 3 ∨ i = 4 ∨ i = 5 ∨ i = 7) → cellOf g' i = cellOf g i)
  (l1 : Lst g'.nm ob w1 g'.fp g'.fn g'.fc) (l2 : Lst g'.nm ob w1 g'.cp g'.cn g'.cc) (l3 : Lst g'.nm ob w1 g'.mp g'.mn g'.mc)
  (o12 : other (.slice g'.fp g'.fn g'.fc) (.slice g'.cp g'.cn g'.cc)) (o13 : other (.slice g'.fp g'.fn g'.fc) (.slice g'.mp g'.mn g'.mc)) (o21 : other (.slice g'.cp g'.cn g'.cc) (.slice g'.fp g'.fn g'.fc))
  (o23 : other (.slice g'.cp g'.cn g'.cc) (.slice g'.mp g'.mn g'.mc)) (o31 : other (.slice g'.mp g'.mn g'.mc) (.slice g'.fp g'.fn g'.fc)) (o32 : other (.slice g'.mp g'.mn g'.mc) (.slice g'.cp g'.cn g'.cc))
  (cnt : g'.fn + g'.cn + g'.mn ≤ c2) (few : c2 ≤ 90) : ProgAt ob c2 g' (w1.setCell ⟨g.P, j, none⟩ (cellOf g' j)) ∧ Fr ob g.d.D g.P w (w1.setCell ⟨g.P, j, none⟩ (cellOf g' j)) := by
 have hlow := h.low
 have hob := h.pob
 have nj : ∀ i, i ≠ j → (⟨g.P, j, none⟩ : Addr) ≠ ⟨g.P, i, none⟩ := fun i hi e => by injection e with _ e _; exact hi e.symm
 have tc : ∀ b i v, b < g.P → w.cell? ⟨b, i, none⟩ = some v → (w1.setCell ⟨g.P, j, none⟩ (cellOf g' j)).cell? ⟨b, i, none⟩ = some v := by
  intro b i v hlt hc
  rw [World.cell?_setCell_other _ _ _ _ (show (⟨g.P, j, none⟩ : Addr) ≠ ⟨b, i, none⟩ from fun e => by injection e with e _ _; omega), hb.cell (p := ⟨b, i, none⟩) (show b < ob by omega)]
  exact hc
 have tP : ∀ i v, i ≠ j → w.cell? ⟨g.P, i, none⟩ = some v → (w1.setCell ⟨g.P, j, none⟩ (cellOf g' j)).cell? ⟨g.P, i, none⟩ = some v := by
  intro i v hi hc
  rw [World.cell?_setCell_other _ _ _ _ (nj i hi), hb.cell (p := ⟨g.P, i, none⟩) hob]
  exact hc
 have tf : ∀ b i, b < ob → (w1.setCell ⟨g.P, j, none⟩ (cellOf g' j)).frozen? ⟨b, i, none⟩ = w.frozen? ⟨b, i, none⟩ := by
  intro b i hlt
  rw [World.frozen?_setCell]
  exact hb.frozen (p := ⟨b, i, none⟩) hlt
 obtain ⟨k1, k2, k3, k4, k5, k7⟩ := h.made.cells
 have old : ∃ v, w1.cell? ⟨g.P, j, none⟩ = some v := by
  have e := hb.cell (p := ⟨g.P, j, none⟩) hob
  rcases hj with rfl | rfl | rfl | rfl | rfl | rfl <;> exact ⟨_, e.trans (by assumption)⟩
 obtain ⟨v0, hv0⟩ := old
 have cell : ∀ i, (i = 1 ∨ i = 2 ∨ i = 3 ∨ i = 4 ∨ i = 5 ∨ i = 7) → w.cell? ⟨g.P, i, none⟩ = some (cellOf g i) → (w1.setCell ⟨g.P, j, none⟩ (cellOf g' j)).cell? ⟨g.P, i, none⟩ = some (cellOf g' i) := by
  intro i hi hc
  by_cases e : i = j
  ·subst e; exact World.cell?_setCell_same _ _ _ hv0
  ·rw [hsame i e hi]; exact tP i _ e hc
 have k0 := tP 0 _ (by omega) h.made.c0
 have k6 := tP 6 _ (by omega) h.made.c6
 have kd := tc g.d.D 1 _ hlow h.made.dice.at_
 have hsb : But (fun a => a = ⟨g.P, j, none⟩) w1 (w1.setCell ⟨g.P, j, none⟩ (cellOf g' j)) := But.setCell w1 _ _ rfl
 have hm : ∀ a : Addr, a = ⟨g.P, j, none⟩ → a.block < ob := fun a e => by subst e; exact hob
 have l1' := l1.keep hsb hm
 have l2' := l2.keep hsb hm
 have l3' := l3.keep hsb hm
 have ev : varsOf g.P (w1.setCell ⟨g.P, j, none⟩ (cellOf g' j)) = varsOf g.P w := varsOf_eq k6
 have ea : atOf g.d.D (w1.setCell ⟨g.P, j, none⟩ (cellOf g' j)) = atOf g.d.D w := atOf_eq kd
 have hcr := h.made.credit
 have dice : DiceAt g.d (w1.setCell ⟨g.P, j, none⟩ (cellOf g' j)) := by
  have hd := h.made.dice
  refine ⟨hd.few, tc _ 0 _ hlow hd.row, by rw [ea]; exact kd, by rw [ea]; exact hd.le, fun i hi => ?_, hd.away, by rw [tf _ _ (by omega)]; exact hd.warm⟩
  obtain ⟨b, o, hp, x, h1, h2, hc⟩ := hd.rolls i hi
  exact ⟨b, o, hp, x, h1, h2, tc _ _ _ (h.row b o hp) hc⟩
 constructor
 ·have hD' : g'.d.D < ob := by rw [hd]; omega
  have hP' : g'.P < ob := by rw [hP]; omega
  refine ⟨⟨by rw [hd]; exact dice, by rw [hP, hd]; exact h.made.apart, by rw [hP, hd]; exact h.made.rowP, by rw [hP, hd]; exact k0, by rw [hP]; exact cell 1 (by omega) k1, by rw [hP]; exact cell 2 (by omega) k2, by rw [hP]; exact cell 3 (by omega) k3, by rw [hP]; exact cell 4 (by omega) k4, by rw [hP]; exact cell 5 (by omega) k5,
   by rw [hP, ev]; exact k6, by rw [hP]; exact cell 7 (by omega) k7, by rw [hP, tf _ _ hob]; exact h.made.warm, l1'.vars hD' hP', l2'.vars hD' hP', l3'.vars hD' hP', by omega, by rw [hP, hd, ev, ea]; exact hcr⟩,
   by rw [hP, hd]; exact hlow, by rw [hP, hd]; exact h.row, by rw [hP]; exact hob, fun i => by rw [hP, tf _ _ hob]; exact h.warm i, by have h1 := h.siz; have h2 := hb.size; simp [World.setCell]; omega, l1', l2', l3', o12, o13, o21, o23, o31, o32, cnt, few⟩
 ·exact Fr.of_blocks (hsb.os.trans hb.os) (hsb.tape.trans hb.tape) (hsb.output.trans hb.output) (Nat.le_trans hb.size hsb.size) (fun k hk hk2 => (Below.heap_setCell _ _ _ _ hk2).trans (hb.block k hk)) (by omega) (by omega)
/-- a list has grown: the others stand -/
theorem Lst.grown {φ : ByteArray → Prop} {ob : Nat} {w w' : World} {p q : Option Addr} {n c m d : Nat} (h : Lst φ ob w p n c) (hg : w.grownBy w' (Value.slice q m d).ownBlock) (ho : other (.slice p n c) (.slice q m d)) : Lst φ ob w' p n c := by
 obtain ⟨F, h1, h2, h3⟩ := h
 exact ⟨F, h1, h2, World.ownsRow.kept h3 hg ho⟩
theorem Lst.alloc {φ : ByteArray → Prop} {ob : Nat} {w : World} {p : Option Addr} {n c : Nat} (h : Lst φ ob w p n c) (o : Obj) : Lst φ ob (w.alloc o) p n c := by
 obtain ⟨F, h1, h2, h3⟩ := h
 exact ⟨F, h1, h2, World.ownsRow.alloc h3 o⟩
theorem Lst.lt {φ : ByteArray → Prop} {ob : Nat} {w : World} {p : Option Addr} {n c : Nat} (h : Lst φ ob w p n c) : ∀ k, (Value.slice p n c).ownBlock = some k → ob ≤ k ∧ k < w.heap.size := by
 obtain ⟨F, h1, h2, h3⟩ := h
 exact World.ownsRow.lt h3
/-- what an append to a list leaves -/
structure Pushed (φ : ByteArray → Prop) (ob : Nat) (w : World) (p : Option Addr) (n c : Nat) (v : Value) (w' : World) : Prop where
 lst : ∃ p' c', v = .slice p' (n + 1) c' ∧ Lst φ ob w' p' (n + 1) c'
 grown : w.grownBy w' (Value.slice p n c).ownBlock
 own : v.ownBlock = (Value.slice p n c).ownBlock ∨ v.ownBlock = some w.heap.size
theorem Pushed.below {φ : ByteArray → Prop} {ob : Nat} {w w' : World} {p : Option Addr} {n c : Nat} {v : Value} (h : Pushed φ ob w p n c v w') (hl : Lst φ ob w p n c) (hs : ob ≤ w.heap.size) : Below ob w w' := (Below.refl ob w).grown h.grown hs (fun k hk => (hl.lt k hk).1)
/-- another list stands, and lies apart -/
theorem Pushed.stands {φ : ByteArray → Prop} {ob : Nat} {w w' : World} {p q : Option Addr} {n c m d : Nat} {v : Value} (h : Pushed φ ob w p n c v w') (hl : Lst φ ob w q m d) (o1 : other (.slice q m d) (.slice p n c)) (o2 : other (.slice p n c) (.slice q m d)) :
  Lst φ ob w' q m d ∧ other (.slice q m d) v ∧ other v (.slice q m d) := by
 refine ⟨hl.grown h.grown o1, ?_, ?_⟩
 ·rcases h.own with e | e
  ·unfold other; rw [e]; exact o1
  ·cases hq : (Value.slice q m d).ownBlock with
   | none => exact .inl hq
   | some k => exact .inr (by rw [e]; intro h2; rw [hq] at h2; have := (hl.lt k hq).2; injection h2 with h2; omega)
 ·rcases h.own with e | e
  ·unfold other; rw [e]; exact o2
  ·right
   rw [e]
   intro h2
   have := (hl.lt _ h2.symm).2
   omega
theorem wpList_push {φ : ByteArray → Prop} {ops : Array Oper} {rest : List Oper} {o : Oper} {a : Act} {Q : Exit → Act → World → Prop} {w : World} (hgd : o.guard = none) (s x : Operand)
  (ho : o.op = .call { callee := .builtin .append, args := #[s, x], argTypes := #[34, 34] })
  (ob : Nat) (p : Option Addr) (n c : Nat) (hs : a.eval s = .slice p n c) (hl : Lst φ ob w p n c) (b : Nat) (t : ByteArray) (hx : a.eval x = .slice (some ⟨b, 0, none⟩) 1 1) (hb : w.cell? ⟨b, 0, none⟩ = some (.string t)) (ht : φ t)
  (hn : n ≤ 100) (hbase : ob ≤ w.heap.size)
  (h : ∀ q d w', Pushed φ ob w p n c (.slice q (n + 1) d) w' → wpList Tryz.prog ops Q rest (a.put o.dst (.slice q (n + 1) d)) w') : wpList Tryz.prog ops Q (o :: rest) a w := by
 obtain ⟨i, hi, hz, h1, h2⟩ := info_parts infoString
 obtain ⟨F, hF, hS, hown⟩ := hl
 subst hF
 refine wpList_append_own_at w hgd s x 34 ho ob 9 i _ 1 16 Tryz.underlying34 hi hz h1 h2 rfl (by omega) _ F.length (F.map Value.string) hs hown ⟨b, 0, none⟩ 1 1 [.string t] hx rfl (fun j u hj => ?_) (fun u hu => by simp at hu; subst hu; rfl) (by unfold maxLen; omega) (by omega) hbase ?_
 ·match j, hj with
  | 0, hj => simp at hj; subst hj; simpa [Addr.add] using hb
  | j + 1, hj => simp at hj
 ·intro v' w' h3 h4 _ h5
  have h6 : OwnT w' ob v' (F ++ [t]) := by
   unfold OwnT
   rw [List.map_append, List.length_append]
   exact h3
  obtain ⟨q, cap, e, _⟩ := h6.cells
  have e2 : (F ++ [t]).length = F.length + 1 := by simp
  rw [e2] at e
  subst e
  refine h q cap w' ⟨⟨q, cap, rfl, F ++ [t], by simp, fun s hs => ?_, h6⟩, h4, h5⟩
  rcases List.mem_append.1 hs with hs | hs
  ·exact hS s hs
  ·simp at hs; subst hs; exact ht
end Go.Proofs.YtheigpiffdabnaaGreat
