/-
  CONTRACTS: blocks: from expressions of less depth. The list of variables in scope lies in a block of the call's own.
-/
import Derived.Test.YtflcpcefjliijaaOwnT
namespace Go.Proofs.Ytflcpcefjliijaa
open Go Go.RowKit
set_option linter.unusedVariables false
set_option linter.unusedSimpArgs false

/-- an append of nothing that is nil -/
theorem wpList_appendT_none {ops : Array Oper} {rest : List Oper} {o : Oper} {a : Act} {Q : Exit → Act → World → Prop} {w : World} (hgd : o.guard = none) (s x : Operand)
    (ho : o.op = .call { callee := .builtin .append, args := #[s, x], argTypes := #[65, 65] })
    (base : Nat) (v : Value) (T : List ByteArray) (hs : a.eval s = v) (hown : OwnT w base v T) (c : Nat) (hx : a.eval x = .slice none 0 c)
    (h : wpList Try.prog ops Q rest (a.put o.dst v) w) : wpList Try.prog ops Q (o :: rest) a w := by
  obtain ⟨i, hi, hz, h1, h2⟩ := info_parts infoString
  refine wpList_plain hgd fun K hK => ?_
  have hrun : (Builtin.append_ #[65, 65] o.type #[v, .slice none 0 c]).run Try.prog w = .ok v w := by
    rcases hown.2 with ⟨rfl, _⟩ | ⟨g, cap, cur, rfl, _, _, hnc, _⟩
    · simp [Builtin.append_, run_underlying Try.underlying65, sizeOf, typeInfo, hi, Builtin.lenOf, Builtin.firstCells]
    · simp [Builtin.append_, run_underlying Try.underlying65, sizeOf, typeInfo, hi, Builtin.lenOf, Builtin.firstCells, hnc, storeCells]
  unfold Oper.wp
  simp [execOp, ho, resolve, invoke, builtin, hs, hx, hrun, Result.andThen]
  exact hK _ _ h

/-- the strings of a row, as a list -/
theorem shorts_list {N : Nat} {w : World} {p : Option Addr} : ∀ m, Shorts N w p m → ∃ V : List ByteArray, V.length = m ∧ (∀ s ∈ V, s.size ≤ N) ∧ ∀ j (hj : j < V.length), ∃ b o, p = some ⟨b, o, none⟩ ∧ w.cell? ⟨b, o + j, none⟩ = some (.string V[j])
  | 0, _ => ⟨[], rfl, fun s hs => by simp at hs, fun j hj => by simp at hj⟩
  | m + 1, h => by
    obtain ⟨V, h1, h2, h3⟩ := shorts_list m (fun i hi => h i (by omega))
    obtain ⟨b, o, s, hp, hc, hs⟩ := h m (by omega)
    refine ⟨V ++ [s], by simp [h1], fun x hx => ?_, fun j hj => ?_⟩
    · rcases List.mem_append.1 hx with hx | hx
      · exact h2 x hx
      · simp at hx; subst hx; exact hs
    · by_cases hlt : j < V.length
      · obtain ⟨b', o', q1, q2⟩ := h3 j hlt
        exact ⟨b', o', q1, by rw [List.getElem_append_left hlt]; exact q2⟩
      · have e : j = m := by simp at hj; omega
        subst e
        refine ⟨b, o, hp, ?_⟩
        rw [hc, List.getElem_append_right (by omega)]
        simp [h1]

/-- as Went, with r variables to spare -/
structure WentC (g : Made) (r : Nat) (w w' : World) : Prop where
  but : But (isMut g) w w'
  good : MadeAt g w'
  le : atOf g.d.D w ≤ atOf g.d.D w'
  credit : varsOf g.P w' + r + 2 * atOf g.d.D w ≤ varsOf g.P w + 2 * atOf g.d.D w'
theorem WentC.went {g : Made} {r : Nat} {w w' : World} (h : WentC g r w w') : Went g w w' := ⟨h.but, h.good, h.le, by have := h.credit; omega⟩
theorem WentC.trans {g : Made} {r : Nat} {a b c : World} (h : WentC g r a b) (k : Went g b c) : WentC g r a c := ⟨h.but.trans k.but, k.good, Nat.le_trans h.le k.le, by have := h.credit; have := k.credit; omega⟩
theorem WentC.less {g : Made} {r s : Nat} {a b : World} (h : WentC g r a b) (hs : s ≤ r) : WentC g s a b := ⟨h.but, h.good, h.le, by have := h.credit; omega⟩
theorem WentC.count {g : Made} {r : Nat} {a b : World} (h0 : MadeAt g a) (h : WentC g (r + 1) a b) : WentC g r a (b.setCell ⟨g.P, 6, none⟩ (.int .i64 ((varsOf g.P b : Nat) + 1))) := by
  have hb : But (isMut g) b (b.setCell ⟨g.P, 6, none⟩ (.int .i64 ((varsOf g.P b : Nat) + 1))) := But.setCell b _ _ (Or.inr rfl)
  have hv : (b.setCell ⟨g.P, 6, none⟩ (.int .i64 ((varsOf g.P b : Nat) + 1))).cell? ⟨g.P, 6, none⟩ = some (.int .i64 ((varsOf g.P b + 1 : Nat) : Int)) := by
    rw [World.cell?_setCell_same _ _ _ h.good.c6]; simp
  have hne : (⟨g.P, 6, none⟩ : Addr) ≠ ⟨g.d.D, 1, none⟩ := by intro e; injection e with e _ _; exact h.good.apart e
  have hk : (b.setCell ⟨g.P, 6, none⟩ (.int .i64 ((varsOf g.P b : Nat) + 1))).cell? ⟨g.d.D, 1, none⟩ = some (.int .i64 ((atOf g.d.D b : Nat) : Int)) := by
    rw [World.cell?_setCell_other _ _ _ _ hne]; exact h.good.dice.at_
  have hcr := h.credit
  have hc0 := h0.credit
  refine ⟨h.but.trans hb, h.good.keep hb hk h.good.dice.le hv (by omega), by rw [atOf_eq hk]; exact h.le, ?_⟩
  rw [atOf_eq hk, varsOf_eq hv]
  omega
theorem WentC.few {g : Made} {r : Nat} {a b : World} (h0 : MadeAt g a) (h : WentC g r a b) : varsOf g.P b ≤ 800 := by
  have h1 := h.good.credit
  have h2 := h.good.dice.le
  have h3 := h.good.dice.few
  omega

theorem But.then_below {M : Addr → Prop} {w a b : World} (h : But M w a) (k : Below w.heap.size a b) : But M w b :=
  ⟨k.os.trans h.os, k.tape.trans h.tape, k.output.trans h.output, Nat.le_trans h.size k.size, fun x hx hm => (k.cell hx).trans (h.cell x hx hm), fun x hx => (k.frozen hx).trans (h.frozen x hx), fun x hx hm => (k.block x hx).trans (h.block x hx hm)⟩
theorem WentC.push {g : Made} {r : Nat} {w a b : World} (h0 : MadeAt g w) (h : WentC g r w a) (k : Below w.heap.size a b) : WentC g r w b := by
  have hb := h.but.then_below k
  have e1 : b.cell? ⟨g.d.D, 1, none⟩ = a.cell? ⟨g.d.D, 1, none⟩ := k.cell (World.block_lt_of_cell? w _ h0.dice.at_)
  have e2 : b.cell? ⟨g.P, 6, none⟩ = a.cell? ⟨g.P, 6, none⟩ := k.cell (World.block_lt_of_cell? w _ h0.c6)
  have hk : b.cell? ⟨g.d.D, 1, none⟩ = some (.int .i64 ((atOf g.d.D a : Nat) : Int)) := by rw [e1]; exact h.good.dice.at_
  have hv : b.cell? ⟨g.P, 6, none⟩ = some (.int .i64 ((varsOf g.P a : Nat) : Int)) := by rw [e2]; exact h.good.c6
  refine ⟨hb, h0.keep hb hk h.good.dice.le hv h.good.credit, by rw [atOf_eq hk]; exact h.le, ?_⟩
  rw [atOf_eq hk, varsOf_eq hv]
  exact h.credit

/-- in the midst of a block: the variables in scope are T -/
structure BlkAt (g : Made) (r : Nat) (w : World) (v : Value) (T : List ByteArray) (w' : World) : Prop where
  c : WentC g r w w'
  own : OwnT w' w.heap.size v T
  short : ∀ s ∈ T, s.size ≤ 8
  beg : MadeAt g w
theorem BlkAt.low {g : Made} {r : Nat} {w : World} {v : Value} {T : List ByteArray} {a : World} (h : BlkAt g r w v T a) : ∀ x, isMut g x → x.block < w.heap.size := by
  intro x hx
  rcases hx with rfl | rfl
  · exact World.block_lt_of_cell? w _ h.beg.dice.at_
  · exact World.block_lt_of_cell? w _ h.beg.c6
theorem BlkAt.siz {g : Made} {r : Nat} {w : World} {v : Value} {T : List ByteArray} {a : World} (h : BlkAt g r w v T a) : w.heap.size ≤ a.heap.size := h.c.but.size
theorem BlkAt.step {g : Made} {r : Nat} {w : World} {v : Value} {T : List ByteArray} {a b : World} (h : BlkAt g r w v T a) (k : Went g a b) : BlkAt g r w v T b :=
  ⟨h.c.trans k, h.own.keep k.but h.low, h.short, h.beg⟩
theorem BlkAt.thrown {g : Made} {r : Nat} {w : World} {v : Value} {T : List ByteArray} {a b : World} (h : BlkAt g r w v T a) (k : Thrown g.d a b) : BlkAt g r w v T b := h.step (went_thrown h.c.good k)
theorem BlkAt.below {g : Made} {r : Nat} {w : World} {v : Value} {T : List ByteArray} {a b : World} (h : BlkAt g r w v T a) (k : Below a.heap.size a b) : BlkAt g r w v T b := h.step (went_below h.c.good k)
theorem BlkAt.less {g : Made} {r s : Nat} {w : World} {v : Value} {T : List ByteArray} {a : World} (h : BlkAt g r w v T a) (hs : s ≤ r) : BlkAt g s w v T a := ⟨h.c.less hs, h.own, h.short, h.beg⟩
theorem BlkAt.count {g : Made} {r : Nat} {w : World} {v : Value} {T : List ByteArray} {a : World} (h : BlkAt g (r + 1) w v T a) : BlkAt g r w v T (a.setCell ⟨g.P, 6, none⟩ (.int .i64 ((varsOf g.P a : Nat) + 1))) :=
  ⟨h.c.count h.beg, h.own.keep (M := isMut g) (But.setCell a _ _ (Or.inr rfl)) h.low, h.short, h.beg⟩
theorem BlkAt.vars {g : Made} {r : Nat} {w : World} {p : Option Addr} {n c : Nat} {T : List ByteArray} {a : World} (h : BlkAt g r w (.slice p n c) T a) : n = T.length ∧ Vars g a p n := by
  obtain ⟨q, cap, e, hc⟩ := h.own.cells
  injection e with e1 e2 e3
  subst e1
  subst e2
  refine ⟨rfl, fun i hi => ?_, fun b o e => ?_⟩
  · obtain ⟨b, e, _, hcell⟩ := hc i hi
    exact ⟨b, 0, T[i], e, by simpa using hcell, h.short _ (List.getElem_mem _)⟩
  · have hD := h.low ⟨g.d.D, 1, none⟩ (Or.inl rfl)
    have hP := h.low ⟨g.P, 6, none⟩ (Or.inr rfl)
    obtain ⟨hl, h2 | ⟨y, cap2, cur, hv, hg, _⟩⟩ := h.own
    · obtain ⟨e2, _⟩ := h2
      injection e2 with e2 _ _
      rw [e2] at e; cases e
    · injection hv with hv _ _
      rw [hv] at e
      injection e with e
      injection e with e _ _
      subst e
      simp only at hD hP
      omega
theorem BlkAt.push {g : Made} {r : Nat} {w : World} {v v2 : Value} {T : List ByteArray} {a b : World} {s : ByteArray} (h : BlkAt g r w v T a) (hs : s.size ≤ 8) (hown : OwnT b w.heap.size v2 (T ++ [s])) (hg : a.grownBy b v.ownBlock) : BlkAt g r w v2 (T ++ [s]) b :=
  ⟨h.c.push h.beg ((Below.refl w.heap.size a).grown hg h.siz (fun k hk => (World.ownsRow.lt h.own k hk).1)), hown, fun x hx => by
    rcases List.mem_append.1 hx with hx | hx
    · exact h.short x hx
    · simp at hx; subst hx; exact hs, h.beg⟩
theorem BlkAt.start {g : Made} {w : World} {v2 : Value} {T : List ByteArray} {b : World} (h0 : MadeAt g w) (hs : ∀ s ∈ T, s.size ≤ 8) (hown : OwnT b w.heap.size v2 T) (hb : Below w.heap.size w b) : BlkAt g 0 w v2 T b :=
  ⟨WentC.push h0 ⟨But.refl _ _, h0, Nat.le_refl _, by omega⟩ hb, hown, hs, h0⟩
theorem BlkAt.more {g : Made} {w : World} {v : Value} {T : List ByteArray} {a b : World} (h : BlkAt g 0 w v T a) (k : Thrown g.d a b) (hlt : atOf g.d.D a < atOf g.d.D b) : BlkAt g 2 w v T b := by
  have h1 := h.thrown k
  have hk := went_thrown h.c.good k
  have c1 := h.c.credit
  have c2 : varsOf g.P b = varsOf g.P a := by
    have : b.cell? ⟨g.P, 6, none⟩ = some (.int .i64 (varsOf g.P a : Nat)) := k.but.keep h.c.good.c6 (fun q => by unfold isAt at q; injection q with q1 _ _; exact h.c.good.apart q1)
    exact varsOf_eq this
  exact ⟨⟨h1.c.but, h1.c.good, h1.c.le, by omega⟩, h1.own, h1.short, h1.beg⟩

theorem wpList_appendT_any {ops : Array Oper} {rest : List Oper} {o : Oper} {a : Act} {Q : Exit → Act → World → Prop} {w : World} (hgd : o.guard = none) (s x : Operand)
    (ho : o.op = .call { callee := .builtin .append, args := #[s, x], argTypes := #[65, 65] })
    (base : Nat) (v : Value) (T : List ByteArray) (hs : a.eval s = v) (hown : OwnT w base v T) (p : Option Addr) (m c : Nat) (news : List ByteArray) (hx : a.eval x = .slice p m c) (hl : news.length = m)
    (hnews : ∀ j (hj : j < news.length), ∃ b o, p = some ⟨b, o, none⟩ ∧ w.cell? ⟨b, o + j, none⟩ = some (.string news[j])) (h63 : T.length + m ≤ 1000000) (hbase : base ≤ w.heap.size)
    (h : ∀ v' w', OwnT w' base v' (T ++ news) → Below base w w' → wpList Try.prog ops Q rest (a.put o.dst v') w') : wpList Try.prog ops Q (o :: rest) a w := by
  cases p with
  | none =>
    have hn : news = [] := by
      cases news with
      | nil => rfl
      | cons y l => obtain ⟨b, o, e, _⟩ := hnews 0 (by simp); cases e
    subst hn
    simp at hl
    subst hl
    exact wpList_appendT_none hgd s x ho base v T hs hown c hx (h v w (by simpa using hown) (Below.refl _ _))
  | some ad =>
    refine wpList_appendT hgd s x ho base v T hs hown ad m c news hx hl (fun j hj => ?_) h63 hbase ?_
    · obtain ⟨b, o, e, hc⟩ := hnews j hj
      injection e with e
      rw [e, add_lit]
      exact hc
    · intro v' w' h1 h2
      exact h v' w' h1 ((Below.refl base w).grown h2 hbase (fun k hk => (World.ownsRow.lt hown k hk).1))

theorem oneI_any (d : Dice) (m : Int) (w : World) (hd : DiceAt d w) (h1 : 1 ≤ m) (h2 : m ≤ 1000000) :
    Calls Try.prog 63 #[.pointer (some ⟨d.D, 0, none⟩), .int .i64 m] w fun e w' => ∃ k : Bool, e = .returned (.bool k) ∧ Thrown d w w' := by
  obtain ⟨y, rfl⟩ := Int.eq_ofNat_of_zero_le (by omega : 0 ≤ m)
  exact one_any d y w hd (by omega) (by omega)
theorem lit_one (w : World) (s : ByteArray) (t : TypeId) : ∀ j (hj : j < [s].length), ∃ b o, (some (⟨w.heap.size, 0, none⟩ : Addr)) = some ⟨b, o, none⟩ ∧ (w.alloc (.cells #[.string s] t)).cell? ⟨b, o + j, none⟩ = some (.string [s][j]) := by
  intro j hj
  have e : j = 0 := by simp at hj; omega
  subst e
  exact ⟨_, _, rfl, by simp [go_sem]⟩
theorem BlkAt.pushB {g : Made} {r : Nat} {w : World} {v v2 : Value} {T : List ByteArray} {a b : World} {s : ByteArray} (h : BlkAt g r w v T a) (hs : s.size ≤ 8) (hown : OwnT b w.heap.size v2 (T ++ [s])) (hb : Below w.heap.size a b) : BlkAt g r w v2 (T ++ [s]) b :=
  ⟨h.c.push h.beg hb, hown, fun x hx => by
    rcases List.mem_append.1 hx with hx | hx
    · exact h.short x hx
    · simp at hx; subst hx; exact hs, h.beg⟩

set_option maxRecDepth 1000000 in
set_option maxHeartbeats 20000000 in
theorem block_step (dep : Int) (hd : dep ≤ 100) (BI R : Nat) (b1 : BI ≤ 10000) (hI : MakesAt 62 (-1) (dep - 1) BI) (r1 : 3 * BI + 150 ≤ R) : MakesAt 34 0 dep R := by
  intro g k p n cap w hk hk2 hg hv hn
  have e1 : IntKind.i64.wrap (k - 1) = k - 1 := IntWalk.i64_in _ (by omega)
  have c0 := hg.c0
  obtain ⟨V, hV1, hV2, hV3⟩ := shorts_list n hv.1
  have HG := Lib.hid hg
  have HV1 := Lib.hid hV1
  have HV2 := Lib.hid hV2
  have HV3 := Lib.hid hV3
  have HN0 := Lib.hid (OwnT.nil w w.heap.size)
  clear hg hv hV1 hV2 hV3
  unfold Makes
  go_enter Try.func34, Try.ntmps34
  go_wp2_with (at_builtin; go_must (refine wpList_appendT_any (o := ⟨some 19, _, _, _, _, _⟩) rfl (.const (.slice none 0 0)) (.tmp 18) rfl w.heap.size _ [] rfl HN0.out _ _ _ V rfl HV1.out HV3.out (by simp; omega) (Nat.le_refl _) ?_; intro inn w1 hown1 hb1))
  have K1 := Lib.hid (BlkAt.start HG.out HV2.out (by simpa using hown1) hb1)
  clear hown1 hb1
  go_wp2_with fail
  refine (nextI_any g.d 3 _ K1.out.c.good.dice (by omega) (by omega)).mono ?_
  rintro e w2 ⟨x, hx, rfl, ht, hlt⟩
  have K2 : Hid (BlkAt g x w inn V w2) := by
    by_cases h0 : x = 0
    · subst h0; exact K1.out.thrown ht
    · exact (K1.out.more ht (hlt (by omega))).less (by omega)
  clear ht hlt
  have hx3 : 2 + x * (BI + 70) ≤ 2 + 2 * (BI + 70) := by have := Nat.mul_le_mul_right (BI + 70) (show x ≤ 2 by omega); omega
  go_wp2_with fail
  go_loopw [8, 9, 10, 11, 12, 13] (fun inn s n_ _ _ _ wr => ∃ (r : Nat) (T : List ByteArray) (S : ByteArray), n_ = .int .i64 (r : Nat) ∧ s = .string S ∧ Hid (BlkAt g r w inn T wr) ∧ r ≤ 2 ∧ T.length + r ≤ n + 2 ∧ S.size + r * (BI + 70) ≤ 2 + 2 * (BI + 70)) (fun _ _ n_ _ _ _ _ => (intOf n_).toNat)
  case atStart => exact ⟨x, V, _, rfl, rfl, K2.out, by omega, by have := HV1.out; omega, by show 2 + x * (BI + 70) ≤ _; exact hx3⟩
  case round =>
    obtain ⟨r, T, S, rfl, rfl, hblk, hr2, hT, hS⟩ := hrel
    obtain ⟨p', cap', hinn, _⟩ := hblk.out.own.cells
    subst hinn
    have B0 := hblk
    clear hblk
    cases r with
    | zero =>
      have hTn : T.length ≤ 92 := by omega
      go_wp2_with fail
      refine (hI g (k - 1) p' T.length cap' _ (by omega) (by omega) B0.out.c.good B0.out.vars.2 (by omega)).mono ?_
      rintro e w3 ⟨t, ht, rfl, hw⟩
      have B1 := Lib.hid (B0.out.step hw)
      clear hw
      go_wp2_with fail
      go_ret
      exact ⟨_, by simp [ByteArray.size_append, lit_size]; omega, rfl, B1.out.c.went⟩
    | succ r =>
      have er : ((r + 1 : Nat) : Int) = (r : Int) + 1 := by omega
      rw [er]
      have hrM : (r + 1) * (BI + 70) = r * (BI + 70) + (BI + 70) := by rw [Nat.succ_mul]
      rw [hrM] at hS
      have hr01 : r = 0 ∨ r = 1 := by omega
      have hSle : S.size ≤ 30000 := by omega
      have HRM : Hid (S.size + (r * (BI + 70) + (BI + 70)) ≤ 2 + 2 * (BI + 70)) := hS
      clear er hrM hS
      have hTn : T.length ≤ 92 := by omega
      go_wp2_with fail
      refine (nextI_any g.d 5 _ B0.out.c.good.dice (by omega) (by omega)).mono ?_
      rintro e w3 ⟨y, hy, rfl, ht, -⟩
      have B1 := Lib.hid (B0.out.thrown ht)
      clear ht B0
      rcases (by omega : y = 0 ∨ y = 1 ∨ y = 2 ∨ y = 3 ∨ y = 4) with rfl | rfl | rfl | rfl | rfl
      · by_cases hT0 : 0 < T.length
        · have hT0i : (0 : Int) < (T.length : Int) := by omega
          obtain ⟨b, o, _, hpp, _, _⟩ := B1.out.vars.2.1 0 (by omega)
          subst hpp
          have c6 := B1.out.c.good.c6
          have hfew := B1.out.c.few B1.out.beg
          go_wp2_with fail
          refine (digits_any _ _ (by omega)).mono ?_
          rintro e w4 ⟨dg, hdg, rfl, hb⟩
          have B2 := Lib.hid (B1.out.below hb)
          clear c6 hb hfew
          have c6 := B2.out.c.good.c6
          have hwarm := B2.out.c.good.warm
          have hfew := B2.out.c.few B2.out.beg
          have B3 := Lib.hid B2.out.count
          go_wp2_with fail
          clear c6 hwarm
          refine (oneI_any g.d 3 _ B3.out.c.good.dice (by omega) (by omega)).mono ?_
          rintro e w5 ⟨ok, rfl, ht⟩
          have B4 := Lib.hid (B3.out.thrown ht)
          clear ht
          cases ok
          · have _ := hk
            go_wp2_with fail
            refine (hI g (k - 1) _ T.length cap' _ (by omega) (by omega) B4.out.c.good B4.out.vars.2 (by omega)).mono ?_
            rintro e w8 ⟨t, zt, rfl, hw⟩
            have B8 := Lib.hid (B4.out.step hw)
            clear hw
            go_wp2_with (at_builtin; go_must (refine wpList_appendT_any (o := ⟨some 120, _, _, _, _, _⟩) rfl (.tmp 117) (.tmp 119) rfl w.heap.size _ T rfl (B8.out.step (went_alloc B8.out.c.good _)).own _ 1 1 [(⟨#[118]⟩ ++ dg)] rfl rfl (lit_one _ _ _) (by omega) (by have := B8.out.siz; simp; omega) ?_; intro inn2 w9 hown9 hb9))
            have B9 := Lib.hid ((B8.out.step (went_alloc B8.out.c.good _)).pushB (by simp [ByteArray.size_append, lit_size]; omega) hown9 hb9)
            clear hown9 hb9
            go_wp2_with fail
            go_roundw
            case rel => exact ⟨r, _, _, by first | rfl | go_num, rfl, B9.out, by omega, by first | omega | (simp; omega), by have := HRM.out; first | omega | (simp [ByteArray.size_append, lit_size]; omega)⟩
            case measure => simp [intOf]; try omega
          · go_wp2_with fail
            refine (nextI_any g.d T.length _ B4.out.c.good.dice (by omega) (by omega)).mono ?_
            rintro e w6 ⟨z, hz, rfl, ht, -⟩
            have B5 := Lib.hid (B4.out.thrown ht)
            clear ht
            obtain ⟨x, hc, hxs⟩ := vars_at B5.out.vars.2 rfl (show z < T.length by omega)
            have hz0 : (z : Int) < (T.length : Int) := by omega
            have c7 := B5.out.c.good.c7
            obtain hr | hr : g.macro_ = true ∨ g.macro_ = false := by cases g.macro_ <;> simp
            · rw [hr] at c7
              clear hr
              by_cases hx : (x.toList == [101]) = true
              · have hx' : (x.toList != [101]) = false := by simpa using hx
                go_wp2_with fail
                refine (hI g (k - 1) _ T.length cap' _ (by omega) (by omega) B5.out.c.good B5.out.vars.2 (by omega)).mono ?_
                rintro e w8 ⟨t, zt, rfl, hw⟩
                have B8 := Lib.hid (B5.out.step hw)
                clear hw
                go_wp2_with (at_builtin; go_must (refine wpList_appendT_any (o := ⟨some 120, _, _, _, _, _⟩) rfl (.tmp 117) (.tmp 119) rfl w.heap.size _ T rfl (B8.out.step (went_alloc B8.out.c.good _)).own _ 1 1 [(⟨#[118]⟩ ++ dg)] rfl rfl (lit_one _ _ _) (by omega) (by have := B8.out.siz; simp; omega) ?_; intro inn2 w9 hown9 hb9))
                have B9 := Lib.hid ((B8.out.step (went_alloc B8.out.c.good _)).pushB (by simp [ByteArray.size_append, lit_size]; omega) hown9 hb9)
                clear hown9 hb9
                go_wp2_with fail
                go_roundw
                case rel => exact ⟨r, _, _, by first | rfl | go_num, rfl, B9.out, by omega, by first | omega | (simp; omega), by have := HRM.out; first | omega | (simp [ByteArray.size_append, lit_size]; omega)⟩
                case measure => simp [intOf]; try omega
              · have hx0 : (x.toList == [101]) = false := by simpa using hx
                have hx' : (x.toList != [101]) = true := by simpa using hx
                clear hx
                go_wp2_with fail
                refine (hI g (k - 1) _ T.length cap' _ (by omega) (by omega) B5.out.c.good B5.out.vars.2 (by omega)).mono ?_
                rintro e w8 ⟨t, zt, rfl, hw⟩
                have B8 := Lib.hid (B5.out.step hw)
                clear hw
                go_wp2_with (at_builtin; go_must (refine wpList_appendT_any (o := ⟨some 120, _, _, _, _, _⟩) rfl (.tmp 117) (.tmp 119) rfl w.heap.size _ T rfl (B8.out.step (went_alloc B8.out.c.good _)).own _ 1 1 [x] rfl rfl (lit_one _ _ _) (by omega) (by have := B8.out.siz; simp; omega) ?_; intro inn2 w9 hown9 hb9))
                have B9 := Lib.hid ((B8.out.step (went_alloc B8.out.c.good _)).pushB hxs hown9 hb9)
                clear hown9 hb9
                go_wp2_with fail
                go_roundw
                case rel => exact ⟨r, _, _, by first | rfl | go_num, rfl, B9.out, by omega, by first | omega | (simp; omega), by have := HRM.out; first | omega | (simp [ByteArray.size_append, lit_size]; omega)⟩
                case measure => simp [intOf]; try omega
            · rw [hr] at c7
              clear hr
              go_wp2_with fail
              refine (hI g (k - 1) _ T.length cap' _ (by omega) (by omega) B5.out.c.good B5.out.vars.2 (by omega)).mono ?_
              rintro e w8 ⟨t, zt, rfl, hw⟩
              have B8 := Lib.hid (B5.out.step hw)
              clear hw
              go_wp2_with (at_builtin; go_must (refine wpList_appendT_any (o := ⟨some 120, _, _, _, _, _⟩) rfl (.tmp 117) (.tmp 119) rfl w.heap.size _ T rfl (B8.out.step (went_alloc B8.out.c.good _)).own _ 1 1 [x] rfl rfl (lit_one _ _ _) (by omega) (by have := B8.out.siz; simp; omega) ?_; intro inn2 w9 hown9 hb9))
              have B9 := Lib.hid ((B8.out.step (went_alloc B8.out.c.good _)).pushB hxs hown9 hb9)
              clear hown9 hb9
              go_wp2_with fail
              go_roundw
              case rel => exact ⟨r, _, _, by first | rfl | go_num, rfl, B9.out, by omega, by first | omega | (simp; omega), by have := HRM.out; first | omega | (simp [ByteArray.size_append, lit_size]; omega)⟩
              case measure => simp [intOf]; try omega
        · have hT0i : (T.length : Int) ≤ 0 := by omega
          have c6 := B1.out.c.good.c6
          have hfew := B1.out.c.few B1.out.beg
          go_wp2_with fail
          refine (digits_any _ _ (by omega)).mono ?_
          rintro e w4 ⟨dg, hdg, rfl, hb⟩
          have B2 := Lib.hid (B1.out.below hb)
          clear c6 hb hfew
          have c6 := B2.out.c.good.c6
          have hwarm := B2.out.c.good.warm
          have hfew := B2.out.c.few B2.out.beg
          have B3 := Lib.hid B2.out.count
          go_wp2_with fail
          refine (hI g (k - 1) _ T.length cap' _ (by omega) (by omega) B3.out.c.good B3.out.vars.2 (by omega)).mono ?_
          rintro e w8 ⟨t, zt, rfl, hw⟩
          have B8 := Lib.hid (B3.out.step hw)
          clear hw
          go_wp2_with (at_builtin; go_must (refine wpList_appendT_any (o := ⟨some 120, _, _, _, _, _⟩) rfl (.tmp 117) (.tmp 119) rfl w.heap.size _ T rfl (B8.out.step (went_alloc B8.out.c.good _)).own _ 1 1 [(⟨#[118]⟩ ++ dg)] rfl rfl (lit_one _ _ _) (by omega) (by have := B8.out.siz; simp; omega) ?_; intro inn2 w9 hown9 hb9))
          have B9 := Lib.hid ((B8.out.step (went_alloc B8.out.c.good _)).pushB (by simp [ByteArray.size_append, lit_size]; omega) hown9 hb9)
          clear hown9 hb9
          go_wp2_with fail
          go_roundw
          case rel => exact ⟨r, _, _, by first | rfl | go_num, rfl, B9.out, by omega, by first | omega | (simp; omega), by have := HRM.out; first | omega | (simp [ByteArray.size_append, lit_size]; omega)⟩
          case measure => simp [intOf]; try omega
      · by_cases hT0 : 0 < T.length
        · have hT0i : (0 : Int) < (T.length : Int) := by omega
          obtain ⟨b, o, _, hpp, _, _⟩ := B1.out.vars.2.1 0 (by omega)
          subst hpp
          have c6 := B1.out.c.good.c6
          have hfew := B1.out.c.few B1.out.beg
          go_wp2_with fail
          refine (digits_any _ _ (by omega)).mono ?_
          rintro e w4 ⟨dg, hdg, rfl, hb⟩
          have B2 := Lib.hid (B1.out.below hb)
          clear c6 hb hfew
          have c6 := B2.out.c.good.c6
          have hwarm := B2.out.c.good.warm
          have hfew := B2.out.c.few B2.out.beg
          have B3 := Lib.hid B2.out.count
          go_wp2_with fail
          clear c6 hwarm
          refine (oneI_any g.d 3 _ B3.out.c.good.dice (by omega) (by omega)).mono ?_
          rintro e w5 ⟨ok, rfl, ht⟩
          have B4 := Lib.hid (B3.out.thrown ht)
          clear ht
          cases ok
          · have _ := hk
            go_wp2_with fail
            refine (hI g (k - 1) _ T.length cap' _ (by omega) (by omega) B4.out.c.good B4.out.vars.2 (by omega)).mono ?_
            rintro e w8 ⟨t, zt, rfl, hw⟩
            have B8 := Lib.hid (B4.out.step hw)
            clear hw
            go_wp2_with (at_builtin; go_must (refine wpList_appendT_any (o := ⟨some 120, _, _, _, _, _⟩) rfl (.tmp 117) (.tmp 119) rfl w.heap.size _ T rfl (B8.out.step (went_alloc B8.out.c.good _)).own _ 1 1 [(⟨#[118]⟩ ++ dg)] rfl rfl (lit_one _ _ _) (by omega) (by have := B8.out.siz; simp; omega) ?_; intro inn2 w9 hown9 hb9))
            have B9 := Lib.hid ((B8.out.step (went_alloc B8.out.c.good _)).pushB (by simp [ByteArray.size_append, lit_size]; omega) hown9 hb9)
            clear hown9 hb9
            go_wp2_with fail
            go_roundw
            case rel => exact ⟨r, _, _, by first | rfl | go_num, rfl, B9.out, by omega, by first | omega | (simp; omega), by have := HRM.out; first | omega | (simp [ByteArray.size_append, lit_size]; omega)⟩
            case measure => simp [intOf]; try omega
          · go_wp2_with fail
            refine (nextI_any g.d T.length _ B4.out.c.good.dice (by omega) (by omega)).mono ?_
            rintro e w6 ⟨z, hz, rfl, ht, -⟩
            have B5 := Lib.hid (B4.out.thrown ht)
            clear ht
            obtain ⟨x, hc, hxs⟩ := vars_at B5.out.vars.2 rfl (show z < T.length by omega)
            have hz0 : (z : Int) < (T.length : Int) := by omega
            have c7 := B5.out.c.good.c7
            obtain hr | hr : g.macro_ = true ∨ g.macro_ = false := by cases g.macro_ <;> simp
            · rw [hr] at c7
              clear hr
              by_cases hx : (x.toList == [101]) = true
              · have hx' : (x.toList != [101]) = false := by simpa using hx
                go_wp2_with fail
                refine (hI g (k - 1) _ T.length cap' _ (by omega) (by omega) B5.out.c.good B5.out.vars.2 (by omega)).mono ?_
                rintro e w8 ⟨t, zt, rfl, hw⟩
                have B8 := Lib.hid (B5.out.step hw)
                clear hw
                go_wp2_with (at_builtin; go_must (refine wpList_appendT_any (o := ⟨some 120, _, _, _, _, _⟩) rfl (.tmp 117) (.tmp 119) rfl w.heap.size _ T rfl (B8.out.step (went_alloc B8.out.c.good _)).own _ 1 1 [(⟨#[118]⟩ ++ dg)] rfl rfl (lit_one _ _ _) (by omega) (by have := B8.out.siz; simp; omega) ?_; intro inn2 w9 hown9 hb9))
                have B9 := Lib.hid ((B8.out.step (went_alloc B8.out.c.good _)).pushB (by simp [ByteArray.size_append, lit_size]; omega) hown9 hb9)
                clear hown9 hb9
                go_wp2_with fail
                go_roundw
                case rel => exact ⟨r, _, _, by first | rfl | go_num, rfl, B9.out, by omega, by first | omega | (simp; omega), by have := HRM.out; first | omega | (simp [ByteArray.size_append, lit_size]; omega)⟩
                case measure => simp [intOf]; try omega
              · have hx0 : (x.toList == [101]) = false := by simpa using hx
                have hx' : (x.toList != [101]) = true := by simpa using hx
                clear hx
                go_wp2_with fail
                refine (hI g (k - 1) _ T.length cap' _ (by omega) (by omega) B5.out.c.good B5.out.vars.2 (by omega)).mono ?_
                rintro e w8 ⟨t, zt, rfl, hw⟩
                have B8 := Lib.hid (B5.out.step hw)
                clear hw
                go_wp2_with (at_builtin; go_must (refine wpList_appendT_any (o := ⟨some 120, _, _, _, _, _⟩) rfl (.tmp 117) (.tmp 119) rfl w.heap.size _ T rfl (B8.out.step (went_alloc B8.out.c.good _)).own _ 1 1 [x] rfl rfl (lit_one _ _ _) (by omega) (by have := B8.out.siz; simp; omega) ?_; intro inn2 w9 hown9 hb9))
                have B9 := Lib.hid ((B8.out.step (went_alloc B8.out.c.good _)).pushB hxs hown9 hb9)
                clear hown9 hb9
                go_wp2_with fail
                go_roundw
                case rel => exact ⟨r, _, _, by first | rfl | go_num, rfl, B9.out, by omega, by first | omega | (simp; omega), by have := HRM.out; first | omega | (simp [ByteArray.size_append, lit_size]; omega)⟩
                case measure => simp [intOf]; try omega
            · rw [hr] at c7
              clear hr
              go_wp2_with fail
              refine (hI g (k - 1) _ T.length cap' _ (by omega) (by omega) B5.out.c.good B5.out.vars.2 (by omega)).mono ?_
              rintro e w8 ⟨t, zt, rfl, hw⟩
              have B8 := Lib.hid (B5.out.step hw)
              clear hw
              go_wp2_with (at_builtin; go_must (refine wpList_appendT_any (o := ⟨some 120, _, _, _, _, _⟩) rfl (.tmp 117) (.tmp 119) rfl w.heap.size _ T rfl (B8.out.step (went_alloc B8.out.c.good _)).own _ 1 1 [x] rfl rfl (lit_one _ _ _) (by omega) (by have := B8.out.siz; simp; omega) ?_; intro inn2 w9 hown9 hb9))
              have B9 := Lib.hid ((B8.out.step (went_alloc B8.out.c.good _)).pushB hxs hown9 hb9)
              clear hown9 hb9
              go_wp2_with fail
              go_roundw
              case rel => exact ⟨r, _, _, by first | rfl | go_num, rfl, B9.out, by omega, by first | omega | (simp; omega), by have := HRM.out; first | omega | (simp [ByteArray.size_append, lit_size]; omega)⟩
              case measure => simp [intOf]; try omega
        · have hT0i : (T.length : Int) ≤ 0 := by omega
          have c6 := B1.out.c.good.c6
          have hfew := B1.out.c.few B1.out.beg
          go_wp2_with fail
          refine (digits_any _ _ (by omega)).mono ?_
          rintro e w4 ⟨dg, hdg, rfl, hb⟩
          have B2 := Lib.hid (B1.out.below hb)
          clear c6 hb hfew
          have c6 := B2.out.c.good.c6
          have hwarm := B2.out.c.good.warm
          have hfew := B2.out.c.few B2.out.beg
          have B3 := Lib.hid B2.out.count
          go_wp2_with fail
          refine (hI g (k - 1) _ T.length cap' _ (by omega) (by omega) B3.out.c.good B3.out.vars.2 (by omega)).mono ?_
          rintro e w8 ⟨t, zt, rfl, hw⟩
          have B8 := Lib.hid (B3.out.step hw)
          clear hw
          go_wp2_with (at_builtin; go_must (refine wpList_appendT_any (o := ⟨some 120, _, _, _, _, _⟩) rfl (.tmp 117) (.tmp 119) rfl w.heap.size _ T rfl (B8.out.step (went_alloc B8.out.c.good _)).own _ 1 1 [(⟨#[118]⟩ ++ dg)] rfl rfl (lit_one _ _ _) (by omega) (by have := B8.out.siz; simp; omega) ?_; intro inn2 w9 hown9 hb9))
          have B9 := Lib.hid ((B8.out.step (went_alloc B8.out.c.good _)).pushB (by simp [ByteArray.size_append, lit_size]; omega) hown9 hb9)
          clear hown9 hb9
          go_wp2_with fail
          go_roundw
          case rel => exact ⟨r, _, _, by first | rfl | go_num, rfl, B9.out, by omega, by first | omega | (simp; omega), by have := HRM.out; first | omega | (simp [ByteArray.size_append, lit_size]; omega)⟩
          case measure => simp [intOf]; try omega
      · have _ := hk
        by_cases hTl : n < T.length
        · have hTli : (n : Int) < (T.length : Int) := by omega
          obtain ⟨b, o, _, hpp, _, _⟩ := B1.out.vars.2.1 0 (by omega)
          subst hpp
          have HVV := Lib.hid B1.out.vars.2
          have HLEN : Hid ((((T.length : Nat) : Int) - 1).toNat = T.length - 1) := by show _ = _; omega
          have i3 : (1 : Int) ≤ ((T.length : Nat) : Int) := by omega
          have ew : IntKind.i64.wrap (((T.length : Nat) : Int) - 1) = ((T.length : Nat) : Int) - 1 := IntWalk.i64_in _ (by omega)
          have i1 : (0 : Int) ≤ ((T.length : Nat) : Int) - 1 := by omega
          have i2 : ((T.length : Nat) : Int) - 1 < ((T.length : Nat) : Int) := by omega
          go_wp2_with fail
          have GW := Lib.hid (went_drewN B1.out.c.good 1).good
          apply wp_region_rel (LeM.refl g) (LeM.trans g)
          case hm => kernel_rfl
          case hB => kernel_rfl
          apply wpRel_cons (t := tyIs _ _)
          case h1 => (intro w' hl hd; have gd := (hl GW.out).good; have q0 := gd.c0; clear gd hd hl; unfold relAt; go_simp; exact rel_is (LeM.refl g))
          intro _
          rw [tyIs_f]
          go_simp
          apply wpRel_cons (t := tyIs _ _)
          case h1 => (intro w' hl hd; have gd := (hl GW.out).good; have q0 := gd.c0; clear gd hd hl; unfold relAt; go_simp; exact rel_is (LeM.refl g))
          intro _
          rw [tyIs_f]
          go_simp
          apply wpRel_cons (t := tyIs _ _)
          case h1 => (intro w' hl hd; have gd := (hl GW.out).good; have q0 := gd.c0; clear gd hd hl; unfold relAt; go_simp; exact rel_is (LeM.refl g))
          intro _
          rw [tyIs_f]
          go_simp
          apply wpRel_cons (t := tyIs _ _)
          case h1 => (intro w' hl hd; have gd := (hl GW.out).good; have q0 := gd.c0; clear gd hd hl; unfold relAt; go_simp; exact rel_is (LeM.refl g))
          intro _
          rw [tyIs_f]
          go_simp
          apply wpRel_cons (t := tyIs _ _)
          case h1 => (intro w' hl hd; have gd := (hl GW.out).good; have q0 := gd.c0; clear gd hd hl; unfold relAt; go_simp; exact rel_is (LeM.refl g))
          intro _
          rw [tyIs_f]
          go_simp
          apply wpRel_cons (t := tyIs _ _)
          case h1 => (intro w' hl hd; have gd := (hl GW.out).good; have q0 := gd.c0; clear gd hd hl; unfold relAt; go_simp; exact rel_is (LeM.refl g))
          intro _
          rw [tyIs_f]
          go_simp
          apply wpRel_cons (t := tyStr _ 8)
          case h1 => (intro w' hl hd; have gd := (hl GW.out).good; have GD := Lib.hid gd; have HV' := Lib.hid (HVV.out.keep ((went_drewN B1.out.c.good 1).trans (hl GW.out)).but); clear gd hd hl; obtain ⟨s, hc, hs⟩ := vars_at HV'.out rfl (show T.length - 1 < T.length by omega); unfold relAt; go_simp; exact ⟨LeM.refl g _, ⟨s, hs⟩, rfl, trivial⟩)
          rintro ⟨s1, zs1⟩
          rw [tyStr_f]
          go_simp
          apply wpRel_cons (t := tyStr _ (11))
          case h1 => (intro w' hl hd; have gd := (hl GW.out).good; have GD := Lib.hid gd; have HV' := Lib.hid (HVV.out.keep ((went_drewN B1.out.c.good 1).trans (hl GW.out)).but); clear gd hd hl; unfold relAt; go_simp; rw [if_neg (by omega)]; exact ⟨LeM.refl g _, ⟨_, by first | omega | (simp [ByteArray.size_append, lit_size]; omega)⟩, rfl, trivial⟩)
          rintro ⟨s2, zs2⟩
          rw [tyStr_f]
          go_simp
          apply wpRel_cons (t := tyIs _ _)
          case h1 => (intro w' hl hd; have gd := (hl GW.out).good; have q0 := gd.c0; clear gd hd hl; unfold relAt; go_simp; exact rel_is (LeM.refl g))
          intro _
          rw [tyIs_f]
          go_simp
          apply wpRel_cons (t := tyIs _ _)
          case h1 => (intro w' hl hd; have gd := (hl GW.out).good; have q0 := gd.c0; clear gd hd hl; unfold relAt; go_simp; exact rel_is (LeM.refl g))
          intro _
          rw [tyIs_f]
          go_simp
          apply wpRel_cons (t := tyIs _ _)
          case h1 => (intro w' hl hd; have gd := (hl GW.out).good; have q0 := gd.c0; clear gd hd hl; unfold relAt; go_simp; exact rel_is (LeM.refl g))
          intro _
          rw [tyIs_f]
          go_simp
          apply wpRel_cons (t := tyIs _ _)
          case h1 => (intro w' hl hd; have gd := (hl GW.out).good; have q0 := gd.c0; clear gd hd hl; unfold relAt; go_simp; exact rel_is (LeM.refl g))
          intro _
          rw [tyIs_f]
          go_simp
          apply wpRel_cons (t := tyStr _ BI)
          case h1 => (intro w' hl hd; have gd := (hl GW.out).good; have GD := Lib.hid gd; have HV' := Lib.hid (HVV.out.keep ((went_drewN B1.out.c.good 1).trans (hl GW.out)).but); clear gd hd hl; unfold relAt; go_simp; refine ⟨LeM.refl g _, ?_⟩; refine (hI g (k - 1) _ T.length cap' _ (by omega) (by omega) GD.out HV'.out (by omega)).mono ?_; rintro e w2 ⟨s3, zs3, rfl, ht⟩; exact ⟨⟨s3, zs3⟩, rfl, fun _ => ht, trivial⟩)
          rintro ⟨s3, zs3⟩
          rw [tyStr_f]
          go_simp
          apply wpRel_cons (t := tyStr _ (11 + BI))
          case h1 => (intro w' hl hd; have gd := (hl GW.out).good; have GD := Lib.hid gd; have HV' := Lib.hid (HVV.out.keep ((went_drewN B1.out.c.good 1).trans (hl GW.out)).but); clear gd hd hl; unfold relAt; go_simp; rw [if_neg (by omega)]; exact ⟨LeM.refl g _, ⟨_, by first | omega | (simp [ByteArray.size_append, lit_size]; omega)⟩, rfl, trivial⟩)
          rintro ⟨s4, zs4⟩
          rw [tyStr_f]
          go_simp
          apply wpRel_cons (t := tyStr _ (13 + BI))
          case h1 => (intro w' hl hd; have gd := (hl GW.out).good; have GD := Lib.hid gd; have HV' := Lib.hid (HVV.out.keep ((went_drewN B1.out.c.good 1).trans (hl GW.out)).but); clear gd hd hl; unfold relAt; go_simp; rw [if_neg (by omega)]; exact ⟨LeM.refl g _, ⟨_, by first | omega | (simp [ByteArray.size_append, lit_size]; omega)⟩, rfl, trivial⟩)
          rintro ⟨s5, zs5⟩
          rw [tyStr_f]
          go_simp
          apply wpRel_cons (t := tyStr _ (S.size + (13 + BI)))
          case h1 => (intro w' hl hd; have gd := (hl GW.out).good; have GD := Lib.hid gd; have HV' := Lib.hid (HVV.out.keep ((went_drewN B1.out.c.good 1).trans (hl GW.out)).but); clear gd hd hl; unfold relAt; go_simp; rw [if_neg (by omega)]; exact ⟨LeM.refl g _, ⟨_, by first | omega | (simp [ByteArray.size_append, lit_size]; omega)⟩, rfl, trivial⟩)
          rintro ⟨s6, zs6⟩
          rw [tyStr_f]
          go_simp
          apply wpRel_cons (t := tyStr _ (S.size + (13 + BI)))
          case h1 => (intro w' hl hd; have gd := (hl GW.out).good; have GD := Lib.hid gd; have HV' := Lib.hid (HVV.out.keep ((went_drewN B1.out.c.good 1).trans (hl GW.out)).but); clear gd hd hl; unfold relAt; go_simp; exact ⟨LeM.refl g _, ⟨s6, zs6⟩, rfl, trivial⟩)
          rintro ⟨s7, zs7⟩
          rw [tyStr_f]
          go_simp
          apply wpRel_nil (Ts := [])
          intro w8 hl _
          have B8 := Lib.hid (B1.out.step ((went_drewN B1.out.c.good 1).trans (hl GW.out)))
          clear hl
          go_wp2_with fail
          go_roundw
          case rel => exact ⟨r, T, _, by first | rfl | go_num, rfl, (B8.out.less (by omega)), by omega, by first | omega | (simp; omega), by have := HRM.out; first | omega | (simp [ByteArray.size_append, lit_size]; omega)⟩
          case measure => simp [intOf]; try omega
        · have hTli : (T.length : Int) ≤ (n : Int) := by omega
          go_wp2_with fail
          go_roundw
          case rel => exact ⟨r, T, _, by first | rfl | go_num, rfl, (B1.out.less (by omega)), by omega, by first | omega | (simp; omega), by have := HRM.out; first | omega | (simp [ByteArray.size_append, lit_size]; omega)⟩
          case measure => simp [intOf]; try omega
      · have _ := hk
        go_wp2_with fail
        refine (int0_few g 0 _ T.length cap' _ (by omega) (by omega) B1.out.c.good B1.out.vars.2 (by omega)).mono ?_
        rintro e w8 ⟨t, zt, rfl, hw⟩
        have B8 := Lib.hid (B1.out.step hw)
        clear hw
        go_wp2_with fail
        go_roundw
        case rel => exact ⟨r, T, _, by first | rfl | go_num, rfl, (B8.out.less (by omega)), by omega, by first | omega | (simp; omega), by have := HRM.out; first | omega | (simp [ByteArray.size_append, lit_size]; omega)⟩
        case measure => simp [intOf]; try omega
      · have _ := hk
        have c6 := B1.out.c.good.c6
        have hfew := B1.out.c.few B1.out.beg
        go_wp2_with fail
        refine (digits_any _ _ (by omega)).mono ?_
        rintro e w4 ⟨dg, hdg, rfl, hb⟩
        have B2 := Lib.hid (B1.out.below hb)
        clear c6 hb hfew
        have c6 := B2.out.c.good.c6
        have hwarm := B2.out.c.good.warm
        have hfew := B2.out.c.few B2.out.beg
        have B3 := Lib.hid B2.out.count
        go_wp2_with fail
        clear c6 hwarm
        refine (nextI_any g.d 4 _ B3.out.c.good.dice (by omega) (by omega)).mono ?_
        rintro e w6 ⟨z, hz, rfl, ht, -⟩
        have B4 := Lib.hid (B3.out.thrown ht)
        clear ht
        go_wp2_with fail
        refine (digits_any z _ (by omega)).mono ?_
        rintro e w7 ⟨dh, hdh, rfl, hb⟩
        have B5 := Lib.hid (B4.out.below hb)
        clear hb
        go_wp2_with fail
        refine (int0_few g 0 _ T.length cap' _ (by omega) (by omega) B5.out.c.good B5.out.vars.2 (by omega)).mono ?_
        rintro e w8 ⟨t, zt, rfl, hw⟩
        have B8 := Lib.hid (B5.out.step hw)
        clear hw
        go_wp2_with fail
        go_roundw
        case rel => exact ⟨r, T, _, by first | rfl | go_num, rfl, B8.out, by omega, by first | omega | (simp; omega), by have := HRM.out; first | omega | (simp [ByteArray.size_append, lit_size]; omega)⟩
        case measure => simp [intOf]; try omega

end Go.Proofs.Ytflcpcefjliijaa
