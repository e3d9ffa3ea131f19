/-
  CONTRACTS: identity.pair, its first loop.
-/
import Derived.Test.YtcplhnpblpmalaaGrp
import Derived.Test.YtcplhnpblpmalaaPairP
import Derived.Test.YtcplhnpblpmalaaOne
namespace Go.Proofs.Ytcplhnpblpmalaa.Idn
open Go Go.RowKit Go.Maps
set_option linter.unusedVariables false
set_option maxRecDepth 1000000

abbrev mapS : TypeId := 117
abbrev mapD : TypeId := 74
theorem info_int : (Try.prog.info? 3).map (fun i => (i.zero, i.size, i.bytes)) = some (some (.int .i64 0), 1, 8) := by kernel_rfl
theorem zeroS (w : World) : (zeroValue 22).run Try.prog w = .ok (.slice none 0 0) w := by kernel_rfl
theorem GrpG.look {w : World} {b cnt base : Nat} {g : ByteArray → Option Value} {zs : ByteArray → List Int} (h : GrpG w b cnt base g zs) (s : ByteArray) (hs : s.size ≤ maxLen) :
    (Instr.lookup mapS (.map (some b)) (.string s) false).run Try.prog w = .ok (slOf (g s)) w := by
  refine (h.map.look (P := Try.prog) (t := mapS) Try.underlying117 (zeroS w) s hs).trans ?_
  unfold slOf
  cases g s <;> rfl

theorem cells_row {w w' : World} {b off : Nat} {cs : List Value} {row : Option Nat} (h : CellsAt w b off cs) (hg : w.grownBy w' row) (hr : some b ≠ row) (hb : b < w.heap.size) : CellsAt w' b off cs := by
  intro j v hv
  have := h j v hv
  rw [World.cell?_of_block (w := w) (hg.block b hb hr)]
  exact this
theorem one_isL {P : Program} {A C : World → World → Prop} {Pn : Ending → World → Prop} {c k : Nat} {v : Value} {w : World} (hr : A w w) (h : k ≠ c) : oneUpon P (sel A C c k) Pn (tvIs v) w (.ok (.value v) w) := by
  refine ⟨?_, (), rfl, trivial⟩
  unfold sel
  rw [if_neg h]
  exact hr
abbrev AL : World → World → Prop := fun x y => Below x.heap.size x y
abbrev CR (row : Option Nat) : World → World → Prop := fun x y => x.grownBy y row
theorem oneAt_append {P : Program} {ops : Array Oper} {o : Oper} {a : Act} {L : World → World → Prop} {Pn : Ending → World → Prop} {t : TyV} {w w' : World} {s x : Operand} {sT : TypeId} {v u v' : Value} (hgd : o.guard = none)
    (ho : o.op = .call { callee := .builtin .append, args := #[s, x], argTypes := #[sT, sT] }) (hs : a.eval s = v) (hx : a.eval x = u) (hr : (Builtin.append_ #[sT, sT] o.type #[v, u]).run P w = .ok v' w') (h : oneUpon P L Pn t w (.ok (.value v') w')) : oneAt P ops L Pn t o a w := by
  have hw : Region.wanted o (yielded ops a.tmps) = true := by simp [Region.wanted, hgd]
  unfold oneAt
  rw [if_pos hw]
  unfold execOp
  simp only [ho, resolve, invoke, builtin, Sem.run_bind, Sem.run_pure, Result.andThen_ok, List.map_toArray, List.map_cons, List.map_nil, hs, hx, hr]
  exact h
/-- one number in a slice that was just laid -/
def tvOne (row : Option Nat) (x : Int) : TyV := ⟨{b : Nat // True}, ⟨⟨0, trivial⟩⟩, fun b => .slice (some ⟨b.1, 0, none⟩) 1 1, fun b w => CellsAt w b.1 0 [.int .i64 x] ∧ some b.1 ≠ row ∧ b.1 < w.heap.size⟩
theorem tvOne_good (row : Option Nat) (x : Int) (c k : Nat) : Good AL (CR row) c k (tvOne row x) :=
  ⟨fun b w w' hl h => ⟨h.1.below hl, h.2.1, Nat.lt_of_lt_of_le h.2.2 hl.size⟩, fun _ b w w' hl h => ⟨cells_row h.1 hl h.2.1 h.2.2, h.2.1, Nat.lt_of_lt_of_le h.2.2 hl.size⟩⟩
theorem tvOne_f (row : Option Nat) (x : Int) (b : Nat) (h : True) : (tvOne row x).f ⟨b, h⟩ = .slice (some ⟨b, 0, none⟩) 1 1 := rfl
theorem tvOne_mk {row : Option Nat} {x : Int} {w : World} {c k : Nat} {P : Program} {Pn : Ending → World → Prop} (hr : ∀ j, row = some j → j < w.heap.size) (h : k ≠ c) :
    oneUpon P (sel AL (CR row) c k) Pn (tvOne row x) w (.ok (.value (.slice (some ⟨w.heap.size, 0, none⟩) 1 1)) (w.alloc (.cells #[.int .i64 x] intT))) := by
  refine ⟨?_, ⟨w.heap.size, trivial⟩, rfl, cellsAt_alloc w [.int .i64 x] intT, fun e => ?_, by simp⟩
  · unfold sel; rw [if_neg h]; exact below_box w _
  · have := hr _ e.symm; simp only at this; omega
/-- the list with one more -/
def tvApp (row : Option Nat) (B base : Nat) (zs : List Int) : TyV := ⟨{v : Value // True}, ⟨⟨undef, trivial⟩⟩, fun v => v.1, fun v w => OwnL encI intT w base v.1 zs ∧ (v.1.ownBlock = row ∨ ∃ k, v.1.ownBlock = some k ∧ B ≤ k)⟩
theorem tvApp_good (row : Option Nat) (B base : Nat) (zs : List Int) (c : Nat) : Good AL (CR row) c c (tvApp row B base zs) :=
  ⟨fun v w w' hl h => ⟨h.1.below hl, h.2⟩, fun hk => absurd rfl hk⟩
theorem tvApp_f (row : Option Nat) (B base : Nat) (zs : List Int) (v : Value) (h : True) : (tvApp row B base zs).f ⟨v, h⟩ = v := rfl
theorem tvApp_mk {row : Option Nat} {B base c sb : Nat} {zs : List Int} {x : Int} {v : Value} {w : World} {Pn : Ending → World → Prop} (hv : OwnL encI intT w base v zs) (hrow : row = v.ownBlock) (hx : CellsAt w sb 0 [.int .i64 x]) (hl : zs.length ≤ 100000) (hb : base ≤ w.heap.size) (hB : B ≤ w.heap.size) (ty : TypeId) :
    ∃ v' w', (Builtin.append_ #[22, 22] ty #[v, .slice (some ⟨sb, 0, none⟩) 1 1]).run Try.prog w = .ok v' w' ∧ oneUpon Try.prog (sel AL (CR row) c c) Pn (tvApp row B base (zs ++ [x])) w (.ok (.value v') w') := by
  obtain ⟨i0, hi0, hz0, hz1, hz2⟩ := info_parts info_int
  obtain ⟨v', w', hr, h2, h3, _, h5⟩ := run_append_own_at (P := Try.prog) w base 22 ty intT i0 (.int .i64 0) 1 8 Try.underlying22 hi0 hz0 hz1 hz2 rfl (by decide) v zs.length (encI.all zs) hv ⟨sb, 0, none⟩ 1 1 [.int .i64 x] rfl (fun j u hj => by rw [add_lit]; exact hx j u hj) (fun u hu => by simp at hu; subst hu; rfl) (by unfold maxLen; omega) (by omega) hb
  refine ⟨v', w', hr, ?_, ⟨v', trivial⟩, rfl, ?_, ?_⟩
  · unfold sel; rw [if_pos rfl, hrow]; exact h3
  · unfold OwnL; rw [List.length_append, encI.all_append]; exact h2
  · rcases h5 with e | e
    · exact .inl (by rw [e, hrow])
    · exact .inr ⟨_, e, hB⟩

theorem look_row {w w' : World} {b cnt base : Nat} {g : ByteArray → Option Value} {zs : ByteArray → List Int} {row : Option Nat} (h : GrpG w b cnt base g zs) (hg : w.grownBy w' row) (hr : some b ≠ row) (s : ByteArray) (hs : s.size ≤ maxLen) :
    (Instr.lookup mapS (.map (some b)) (.string s) false).run Try.prog w' = .ok (slOf (g s)) w' := by
  refine ((h.map.kept hg hr).look (P := Try.prog) (t := mapS) Try.underlying117 (zeroS w') s hs).trans ?_
  unfold slOf
  cases g s <;> rfl
theorem lean_of {md : Region.Mode} {o : Oper} {i : Nat} {F : Facts} {w : World} (h : leanO md o i F w) (j : Nat) (hj : (o.after.any fun e => Region.binds md e && (e.on == j)) = true) : F j w := by
  obtain ⟨e, he, h2⟩ := Array.any_eq_true'.1 hj
  simp only [Bool.and_eq_true, beq_iff_eq] at h2
  rw [← h2.2]
  exact h.2 e he h2.1

theorem own_lt {w : World} {base : Nat} {v : Value} {L : List Int} {k : Nat} (h : OwnL encI intT w base v L) (e : v.ownBlock = some k) : k < w.heap.size := (h.lt k e).2

/-- the first loop under way -/
structure LoopA (w wr : World) (lb cl : Nat) (R : List En) (lf : Df → Bool) (left : Nat) (g : ByteArray → Option Value) (zs : ByteArray → List Int) (cnt : Nat) : Prop where
  old : Below w.heap.size w wr
  size : w.heap.size + 2 ≤ wr.heap.size
  range : RangeAt dfKeys enV wr lb (w.heap.size + 1) cl (at? R) lf left
  grp : GrpG wr w.heap.size cnt (w.heap.size + 2) g zs
  few : cnt + left ≤ cl
  perm : ∀ s, (zs s).Perm (givL R lf s)
  sup : ∀ d, lf d = true → (at? R d).isSome = true

/-- the second loop under way -/
structure LoopB (w wr : World) (ids : List Int) (l : List It) (j : Nat) (g : ByteArray → Option Value) (zs : ByteArray → List Int) (cnt : Nat) : Prop where
  old : Below w.heap.size w wr
  size : w.heap.size + 1 ≤ wr.heap.size
  grp : GrpG wr w.heap.size cnt (w.heap.size + 1) g zs
  few : cnt ≤ j
  val : ∀ s, zs s = takZ ids l s j
theorem LoopB.start (w : World) (ids : List Int) (l : List It) : LoopB w (w.alloc (.map #[] 0)) ids l 0 (fun _ => none) (fun _ => []) 0 :=
  ⟨below_box w _, by simp, GrpG.made w _, Nat.le_refl _, fun s => rfl⟩
theorem LoopB.skip {w wr wx : World} {ids : List Int} {l : List It} {j : Nat} {g : ByteArray → Option Value} {zs : ByteArray → List Int} {cnt : Nat} (h : LoopB w wr ids l j g zs cnt) (hb : Below wr.heap.size wr wx) (hs : ids.getD j 0 ≠ 0) : LoopB w wx ids l (j + 1) g zs cnt :=
  ⟨h.old.trans (hb.mono h.old.size), Nat.le_trans h.size hb.size, h.grp.below hb, by have := h.few; omega, fun s => by rw [h.val, takZ_step, if_neg]; unfold isTak; simp only [Bool.and_eq_true, decide_eq_true_eq]; exact fun q => hs q.1⟩
theorem LoopB.next {w wa w1 w2 : World} {ids : List Int} {l : List It} {j : Nat} {g : ByteArray → Option Value} {zs : ByteArray → List Int} {cnt : Nat} {s : ByteArray} {v' : Value} (h : LoopB w wa ids l j g zs cnt) (h0 : ids.getD j 0 = 0) (hs : shp (l.getD j it0) = s)
    (h1 : OwnL encI intT w1 (w.heap.size + 1) v' (zs s ++ [(j : Int)])) (hg : wa.grownBy w1 (slOf (g s)).ownBlock) (hat : v'.ownBlock = (slOf (g s)).ownBlock ∨ ∃ k, v'.ownBlock = some k ∧ wa.heap.size ≤ k)
    (h2 : MapAt sKeys id w2 w.heap.size (cntPut g s cnt) (updM g s (some v'))) (ht : w1.mapTurned w2 w.heap.size) :
    LoopB w w2 ids l (j + 1) (updM g s (some v')) (zput zs s (j : Int)) (cntPut g s cnt) := by
  have hb := h.grp.step_below hg ht (B := w.heap.size) (by omega) (Nat.le_refl _) h.old.size
  refine ⟨h.old.trans hb, Nat.le_trans h.size hb.size, h.grp.step h1 hg hat h2 ht, ?_, fun s' => ?_⟩
  · have := h.few; unfold cntPut; split <;> omega
  · rw [takZ_step]
    unfold zput isTak
    by_cases e : s' = s
    · subst e
      rw [if_pos rfl, if_pos (by simp only [Bool.and_eq_true, decide_eq_true_eq]; exact ⟨h0, hs⟩), h.val]
    · rw [if_neg e, if_neg, h.val]
      simp only [Bool.and_eq_true, decide_eq_true_eq]
      exact fun q => e (by rw [← q.2, hs])

/-- the third loop under way: B0 the world in which it began, rb the iterator, row the block of the numbers -/
structure LoopC (B0 wr : World) (tb rb base n0 cl : Nat) (v0 : Value) (ids : List Int) (l : List It) (zs : ByteArray → List Int) (g : ByteArray → Option Value) (lf : ByteArray → Bool) (left : Nat) : Prop where
  os : wr.os = B0.os
  tape : wr.tape = B0.tape
  output : wr.output = B0.output
  size : B0.heap.size ≤ wr.heap.size
  blk : ∀ k, k < B0.heap.size → k ≠ rb → some k ≠ v0.ownBlock → wr.heap[k]? = B0.heap[k]?
  range : RangeAt sKeys id wr tb rb cl g lf left
  own : OwnL encI intT wr base v0 (curL ids l zs lf)
  sup : ∀ s, lf s = true → (g s).isSome = true
theorem LoopC.grp {B0 wr : World} {tb rb base n0 cl cnt b2 base2 : Nat} {v0 : Value} {ids : List Int} {l : List It} {zs z2 : ByteArray → List Int} {g g2 : ByteArray → Option Value} {lf : ByteArray → Bool} {left : Nat}
    (h : LoopC B0 wr tb rb base n0 cl v0 ids l zs g lf left) (hg : GrpG B0 b2 cnt base2 g2 z2) (hv : ∀ k, v0.ownBlock = some k → k < base2 ∧ k ≠ b2) (hrb : ∃ o, B0.heap[rb]? = some o ∧ (∀ cs t fr, o ≠ .cells cs t fr) ∧ ∀ es c, o ≠ .map es c) : GrpG wr b2 cnt base2 g2 z2 := by
  obtain ⟨o, ho, ho1, ho2⟩ := hrb
  refine ⟨hg.map.same (h.blk b2 hg.map.lt ?_ (fun e => (hv b2 e.symm).2 rfl)), fun s v e => own_same (hg.own s v e) (fun k hk => ?_), hg.full, hg.void, hg.dif⟩
  · intro e
    obtain ⟨es, c, hm⟩ := map_cells hg.map
    rw [e, ho] at hm
    exact ho2 es c (Option.some.inj hm)
  · have hk2 := (hg.own s v e).lt k hk
    refine h.blk k hk2.2 (fun q => ?_) (fun q => by have := (hv k q.symm).1; omega)
    obtain ⟨cur, fr, hc⟩ := own_cells (hg.own s v e) hk
    rw [q, ho] at hc
    exact ho1 _ _ _ (Option.some.inj hc)
theorem LoopC.come {B0 wr w1 : World} {tb rb base n0 cl : Nat} {v0 : Value} {ids : List Int} {l : List It} {zs : ByteArray → List Int} {g : ByteArray → Option Value} {lf : ByteArray → Bool} {left left' : Nat} {s : ByteArray}
    (h : LoopC B0 wr tb rb base n0 cl v0 ids l zs g lf left) (hr : RangeAt sKeys id w1 tb rb cl g (fun u => lf u && !decide (u = s)) left') (hg : wr.grownBy w1 (some rb)) (hne : v0.ownBlock ≠ some rb)
    (hsame : curL ids l zs (fun u => lf u && !decide (u = s)) = curL ids l zs lf) : LoopC B0 w1 tb rb base n0 cl v0 ids l zs g (fun u => lf u && !decide (u = s)) left' :=
  ⟨hg.os.trans h.os, hg.tape.trans h.tape, hg.output.trans h.output, Nat.le_trans h.size hg.size, fun k hk h1 h2 => (hg.block k (Nat.lt_of_lt_of_le hk h.size) (by simpa using h1)).trans (h.blk k hk h1 h2), hr,
   by rw [hsame]; exact own_same h.own (fun k hk => hg.block k ((own_lt h.own hk)) (fun e => hne (by rw [hk, e]))), fun u hu => h.sup u (by simp at hu; exact hu.1)⟩

theorem RangeAt.iter {P : Program} {k : TypeId} {α β : Type} [DecidableEq α] {K : KeyT P k α} {val : β → Value} {w : World} {b r n cnt : Nat} {f : α → Option β} {left : α → Bool} (h : RangeAt K val w b r n f left cnt) : ∃ o, w.heap[r]? = some o ∧ (∀ cs t fr, o ≠ .cells cs t fr) ∧ ∀ es c, o ≠ .map es c := by
  obtain ⟨D, lf, ⟨es, clock, since, seen, c0, hb, F, hs, hD, hr, rest⟩, _⟩ := h
  exact ⟨_, hr, fun _ _ _ e => (by cases e), fun _ _ e => (by cases e)⟩
theorem encI_set (z : Int) : ∀ (M : List Int) (i : Nat), encI.all (M.set i z) = (encI.all M).set i (.int .i64 z)
  | [], i => by simp [Enc.all]
  | a :: M, 0 => rfl
  | a :: M, i + 1 => by
    rw [List.set_cons_succ, encI.all_cons, encI.all_cons, encI_set z M i]
    rfl
theorem GrpG.iter {w w1 : World} {b cnt base rb : Nat} {g : ByteArray → Option Value} {zs : ByteArray → List Int} (h : GrpG w b cnt base g zs) (hg : w.grownBy w1 (some rb)) (hrb : ∃ o, w.heap[rb]? = some o ∧ (∀ cs t fr, o ≠ .cells cs t fr) ∧ ∀ es c, o ≠ .map es c) : GrpG w1 b cnt base g zs := by
  obtain ⟨o, ho, ho1, ho2⟩ := hrb
  refine ⟨h.map.same (hg.block b h.map.lt (fun e => ?_)), fun s v e => own_same (h.own s v e) (fun k hk => hg.block k (own_lt (h.own s v e) hk) (fun q => ?_)), h.full, h.void, h.dif⟩
  · cases e
    obtain ⟨es, c, hm⟩ := map_cells h.map
    rw [ho] at hm
    exact ho2 es c (Option.some.inj hm)
  · cases q
    obtain ⟨cur, fr, hc⟩ := own_cells (h.own s v e) hk
    rw [ho] at hc
    exact ho1 _ _ _ (Option.some.inj hc)
theorem LoopC.put {B0 wr w1 w2 : World} {tb rb base n0 c0 cl i0 ib : Nat} {ids : List Int} {l : List It} {zs : ByteArray → List Int} {g : ByteArray → Option Value} {lf : ByteArray → Bool} {left left' : Nat} {s : ByteArray} {z : Int}
    (h : LoopC B0 wr tb rb base n0 cl (.slice (some ⟨ib, 0, none⟩) n0 c0) ids l zs g lf left) (hr : RangeAt sKeys id w1 tb rb cl g (fun u => lf u && !decide (u = s)) left') (hg : wr.grownBy w1 (some rb)) (hn0 : n0 = l.length) (hne : ib ≠ rb) (htb : tb ≠ ib) (hbl : Below w1.heap.size w1 w2)
    (hset : curL ids l zs (fun u => lf u && !decide (u = s)) = (curL ids l zs lf).set i0 z) :
    LoopC B0 (w2.setCell ⟨ib, i0, none⟩ (.int .i64 z)) tb rb base n0 cl (.slice (some ⟨ib, 0, none⟩) n0 c0) ids l zs g (fun u => lf u && !decide (u = s)) left' := by
  have ho1 : OwnL encI intT w1 base (.slice (some ⟨ib, 0, none⟩) n0 c0) (curL ids l zs lf) := own_same h.own (fun k hk => hg.block k (own_lt h.own hk) (fun e => by cases hk; cases e; exact hne rfl))
  have ho2 := ho1.below hbl
  have hlen : (curL ids l zs lf).length = l.length := curL_len _ _ _ _
  unfold OwnL at ho2
  rw [hlen, ← hn0] at ho2
  obtain ⟨h1, h2⟩ := World.ownsRow.stored ho2 i0 (.int .i64 z)
  have old : ∀ k, k < w1.heap.size → k ≠ ib → (w2.setCell ⟨ib, i0, none⟩ (.int .i64 z)).heap[k]? = w1.heap[k]? := fun k hk hki => by
    rw [h2.block k (Nat.lt_of_lt_of_le hk hbl.size) (by simpa using hki), hbl.block k hk]
  refine ⟨h2.os.trans (hbl.os.trans (hg.os.trans h.os)), h2.tape.trans (hbl.tape.trans (hg.tape.trans h.tape)), h2.output.trans (hbl.output.trans (hg.output.trans h.output)), Nat.le_trans h.size (Nat.le_trans hg.size (Nat.le_trans hbl.size h2.size)), fun k hk e1 e2 => ?_, ?_, ?_, fun u hu => h.sup u (by simp at hu; exact hu.1)⟩
  · rw [old k (Nat.lt_of_lt_of_le hk (Nat.le_trans h.size hg.size)) (fun e => e2 (by rw [e]; rfl))]
    exact (hg.block k (Nat.lt_of_lt_of_le hk h.size) (by simpa using e1)).trans (h.blk k hk e1 e2)
  · exact hr.same (old tb hr.map.lt htb) (old rb hr.lt (fun e => hne e.symm))
  · rw [hset]
    unfold OwnL
    rw [List.length_set, hlen, ← hn0]
    rw [encI_set]
    exact h1

theorem LoopA.start {w : World} {lb cl : Nat} {R : List En} (hm : MapAt dfKeys enV w lb cl (at? R)) {w1 : World} (hr : RangeAt dfKeys enV w1 lb (w.heap.size + 1) cl (at? R) (fun x => (at? R x).isSome) cl) (hg : (w.alloc (.map #[] 0)).grownBy w1 none)
    (hs : w1.heap.size = w.heap.size + 1 + 1) (hR : DifE R) : LoopA w w1 lb cl R (fun x => (at? R x).isSome) cl (fun _ => none) (fun _ => []) 0 := by
  have hb : Below (w.alloc (.map #[] 0)).heap.size (w.alloc (.map #[] 0)) w1 := (Below.refl _ _).grown hg (Nat.le_refl _) (fun k hk => by cases hk)
  refine ⟨bnext (below_box w _) hb, by omega, hr, (GrpG.made w _).below hb, by omega, fun s => ?_, fun d h => h⟩
  rw [givL_start]
  intro y hy
  rw [at_key hR hy rfl]; rfl
/-- an entry has come, and been laid into a box -/
theorem LoopA.come {w wr : World} {lb cl : Nat} {R : List En} {lf : Df → Bool} {left : Nat} {g : ByteArray → Option Value} {zs : ByteArray → List Int} {cnt : Nat} (h : LoopA w wr lb cl R lf left g zs cnt) {w1 : World} {lf' : Df → Bool} {left' : Nat}
    (hr : RangeAt dfKeys enV w1 lb (w.heap.size + 1) cl (at? R) lf' left') (hg : wr.grownBy w1 (some (w.heap.size + 1))) :
    Below w.heap.size w w1 ∧ w.heap.size + 2 ≤ w1.heap.size ∧ GrpG w1 w.heap.size cnt (w.heap.size + 2) g zs := by
  refine ⟨h.old.trans ((Below.refl w.heap.size wr).grown hg h.old.size (fun k hk => by cases hk; omega)), Nat.le_trans h.size hg.size, ?_⟩
  refine ⟨h.grp.map.kept hg (by simp), fun s v e => own_same (h.grp.own s v e) (fun k hk => ?_), h.grp.full, h.grp.void, h.grp.dif⟩
  have hk2 := (h.grp.own s v e).lt k hk
  exact hg.block k hk2.2 (by simp; omega)
theorem LoopA.next {w wa w1 w2 : World} {lb cl : Nat} {R : List En} {lf : Df → Bool} {left left' : Nat} {g : ByteArray → Option Value} {zs : ByteArray → List Int} {cnt : Nat} {y : En} {v' : Value} (hlb : lb < w.heap.size) (hR : DifE R)
    (old : Below w.heap.size w wa) (size : w.heap.size + 2 ≤ wa.heap.size) (range : RangeAt dfKeys enV wa lb (w.heap.size + 1) cl (at? R) (fun z => lf z && !decide (z = dfn y.2)) left') (grp : GrpG wa w.heap.size cnt (w.heap.size + 2) g zs)
    (few : cnt + left ≤ cl) (perm : ∀ s, (zs s).Perm (givL R lf s)) (sup : ∀ d, lf d = true → (at? R d).isSome = true) (hy : lf (dfn y.2) = true) (hyr : at? R (dfn y.2) = some y) (hlt : left' < left)
    (h1 : OwnL encI intT w1 (w.heap.size + 2) v' (zs (shp y.2) ++ [y.1])) (hg : wa.grownBy w1 (slOf (g (shp y.2))).ownBlock) (hat : v'.ownBlock = (slOf (g (shp y.2))).ownBlock ∨ ∃ k, v'.ownBlock = some k ∧ wa.heap.size ≤ k)
    (h2 : MapAt sKeys id w2 w.heap.size (cntPut g (shp y.2) cnt) (updM g (shp y.2) (some v'))) (ht : w1.mapTurned w2 w.heap.size) :
    LoopA w w2 lb cl R (fun z => lf z && !decide (z = dfn y.2)) left' (updM g (shp y.2) (some v')) (zput zs (shp y.2) y.1) (cntPut g (shp y.2) cnt) := by
  have hb := grp.step_below hg ht (B := w.heap.size) (by omega) (Nat.le_refl _) old.size
  refine ⟨old.trans hb, Nat.le_trans size hb.size, ?_, grp.step h1 hg hat h2 ht, ?_, fun s => ?_, fun d hd => sup d (by simp at hd; exact hd.1)⟩
  · exact range.same (grp.step_block hg ht lb (by omega) (by omega) (by omega)) (grp.step_block hg ht (w.heap.size + 1) (by omega) (by omega) (by omega))
  · unfold cntPut; split <;> omega
  · have := givL_step R lf y hR (at_some hyr).1 hy s
    unfold zput
    by_cases e : s = shp y.2
    · rw [if_pos e] at this ⊢
      subst e
      exact ((perm _).append_right _).trans this.symm
    · rw [if_neg e] at this ⊢
      exact (perm s).trans this.symm
end Go.Proofs.Ytcplhnpblpmalaa.Idn
