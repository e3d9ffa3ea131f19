/-
  CONTRACTS: maps.Keys and slices.AppendSeq at binds.
-/
import Derived.Test.YtheigpiffdabnaaMdI
namespace Go.Proofs.Ytheigpiffdabnaa.Mds
open Go Go.RowKit Go.Maps Go.Shelf
set_option linter.unusedVariables false
set_option linter.unusedSimpArgs false
set_option maxRecDepth 1000000
attribute [local go_sem] Oper.semAt_some

abbrev bdT : TypeId := 61
/-- a block of cells -/
def BoxC (W : World) (B : Nat) (cs : Array Value) (t : TypeId) : Prop := W.heap[B]? = some (.cells cs t (0, 0))
theorem boxC_own {β : Type} (B : Nat) (cs : Array Value) (t : TypeId) : Own (fun (_ : β) W => BoxC W B cs t) := by
  rintro s X Y row hv hg hrow
  unfold BoxC at hv ⊢
  rw [hg.block B (heap_lt hv) (fun e' => ?_)]
  · exact hv
  · obtain ⟨o, ho, hc⟩ := hrow B e'.symm
    rw [hv] at ho; cases ho; cases hc
theorem BoxC.cells {W : World} {B : Nat} {cs : List Value} {t : TypeId} (h : BoxC W B cs.toArray t) : CellsAt W B 0 cs := by
  intro j v hv
  unfold BoxC at h
  rw [Lib.cell_of_heap h]
  simpa using hv
theorem bd2 {W : World} {b : Nat} {c0 c1 : Value} (h : CellsAt W b 0 [c0, c1]) : W.cell? ⟨b, 0, none⟩ = some c0 ∧ W.cell? ⟨b, 1, none⟩ = some c1 := ⟨h 0 _ rfl, h 1 _ rfl⟩

set_option maxHeartbeats 2000000 in
theorem appendB_in (n : Nat) (hn : 3 ≤ n) (gf : Nat) (lb : Array Value) (eg : ∀ args w, (callFunc gf args).run Try.prog w = .ok (.enter gf args) w) (S Sp : List Bd → Prop) (N : Nat) (hN : N ≤ 1000000) (w : World)
    (hseq : SeqStopsK Fence.wide (n - 1) Try.prog gf lb (fun s => #[bdV s]) (KpW w.heap.size) S Sp N w) :
    CallsIn Fence.wide n Try.prog 91 #[.slice none 0 0, .func (.func gf) #[] lb] w fun e W' => ∃ v xs, e = .returned v ∧ S xs ∧ OwnL encBd bdT W' w.heap.size v xs ∧ Below w.heap.size w W' := by
  have h1 : 1 ≤ n := by omega
  have hro : Fence.wide.round = none := rfl
  obtain ⟨i0, hi, hz0, hz1, hz2⟩ := info_parts infoB
  refine callsIn_of_wp_marks Try.func91 rfl trivial ?_ hro
  simp only [Try.ntmps91, List.size_toArray, List.length_cons, List.length_nil, Nat.reduceAdd, Nat.reduceSub, Array.replicate_succ, Array.replicate_zero, List.push_toArray, List.append_toArray, List.nil_append, List.cons_append]
  gi_wp2
  have bO := Boxed.new w 52 (.slice none 0 0)
  have hB0 : Below w.heap.size w (w.alloc (.cells #[.slice none 0 0] 52)) := below_box w _
  refine wpIn_rangeFunc_ownH hro h1 (gf := gf) (lb := lb) rfl trivial eg hseq kpW_t (kpW_b (by simp)) hB0 (fun _ => rfl)
    (fun pre W => (∃ v, Boxed W w.heap.size 52 v ∧ W.ownsRow w.heap.size bdT 2 v pre.length (encBd.all pre) ∧ True) ∧ Below w.heap.size w W)
    (fun _ _ _ => False)
    (OwnFrom.and (Own.from (holdsRow_own w.heap.size w.heap.size 52 bdT 2 (fun pre : List Bd => pre.length) (fun pre => encBd.all pre) (fun pre v => True)) _) (ownFrom_below (Nat.le_refl _) (by simp)))
    (fun _ _ _ _ _ hs _ _ => hs)
    ⟨⟨_, bO, World.ownsRow_nil _ _ _ _, trivial⟩, hB0⟩
    (fun x a' W => ∃ Bx, w.heap.size < Bx ∧ BoxC W Bx #[.string x.1, .string x.2] bdT ∧ a' = { tmps := #[.slice none 0 0, .func (.func gf) #[] lb, .pointer (some ⟨w.heap.size, 0, none⟩), undef, .slice none 0 0, .pointer (some ⟨Bx, 0, none⟩), .func (.func gf) #[] lb, bdV x, undef, undef, undef, undef, undef], defers := [] })
    (fun x a' _ X Y row hs hg hr => by obtain ⟨Bx, h1, h2, h3⟩ := hs; exact ⟨Bx, h1, boxC_own (β := Unit) Bx _ bdT () X Y row h2 hg (fun r e => (hr r e).2), h3⟩)
    ?assign ?body ?done ?stop
  case assign =>
    rintro l pre ⟨x1, x2⟩ W K ⟨⟨v, hv, hrow, -⟩, hB⟩ hK
    unfold bdV
    gi_wp2
    exact hK _ _ ((KeepsOthers.alloc _ _).from _) ⟨KeepsWalks.alloc _ _, (Below.refl _ W).alloc hB.size _⟩ ⟨⟨v, hv.alloc _, hrow.alloc _, trivial⟩, hB.alloc hB.size _⟩ ⟨W.heap.size, hv.lt, heap_alloc_new W _, rfl⟩
  case body =>
    rintro l pre ⟨x1, x2⟩ a' W hl ⟨r, hr⟩ ⟨⟨v, hv, hrow, -⟩, hB⟩ ⟨Bx, hBx, bX, rfl⟩ hlt
    have hc := hv.cell
    obtain ⟨x0, y0⟩ := bd2 (BoxC.cells (cs := [.string x1, .string x2]) bX)
    unfold bdV
    gi_wp2_with (gi_at_builtin; refine wpListIn_append_own _ rfl _ _ 52 rfl w.heap.size bdT i0 (.agg #[.string ⟨#[]⟩, .string ⟨#[]⟩]) 2 32 Try.underlying52 hi hz0 hz1 hz2 rfl (by decide) _ _ _ rfl (hrow.alloc _) ⟨W.heap.size, 0, none⟩ 1 1 [.string x1, .string x2] rfl rfl (fun j u hj => by rw [add_lit]; exact cellsAt_alloc W [.string x1, .string x2] bdT j u hj) (by simp [Value.oneCell']) (by unfold maxLen; omega) (by omega) (by have := hB.size; simp; omega) ?_; intro v' w1 hown' hgrow _; obtain ⟨g', cap', rfl⟩ := ownsRow_succ hown'; obtain ⟨hv1, hv2, hr2, hk2, hb2⟩ := hv.appended (by decide) hrow hB.size (Nat.le_refl _) hown' hgrow; have hc1 := hv1.cell; have hf1 := hv1.frozen)
    have e1 : (pre ++ [((x1, x2) : Bd)]).length = pre.length + 1 := by simp
    have e2 : encBd.all (pre ++ [((x1, x2) : Bd)]) = encBd.all pre ++ [.string x1, .string x2] := encBd.all_append _ _
    refine ⟨hk2.from _, ⟨hk2.walks, hb2⟩, ⟨_, hv2, ?_⟩, hB.trans hb2⟩
    rw [e1, e2]
    first | exact ⟨hr2, trivial⟩ | exact hr2
  case done =>
    rintro D ys W hD hS ⟨⟨v, hv, hrow, -⟩, hB⟩ hK
    have hc := hv.cell
    gi_wp2
    refine ⟨by simp, .inl ⟨_, _, rfl, run_takeDeferred hK, ?_⟩⟩
    exact ⟨_, results_tmp rfl _ _ _, v, ys, rfl, hS, ownsRow_putObj hrow _ hK rfl, hB.trans (belowK_b (w := w) (Nat.le_refl _) W D _ _ (by simp at hD; omega) hK rfl rfl)⟩
  case stop =>
    rintro D c pre W _ _ h _
    exact h.elim

/-! ### maps.Keys -/
section
variable {F : Fence} {n : Nat} {P : Program} {k : TypeId} {α β : Type} [DecidableEq α] {K : KeyT P k α} {val : β → Value} {b cnt : Nat} {f : α → Option β}
variable (w : World) {ops : Array Oper} {rest : List Oper} {o : Oper} {a : Act} {Q : Exit → Act → World → Prop}
theorem wpListIn_rangeM (hg : o.guard = none) (m : Operand) (t e : TypeId) (hop : o.op = Op.range t m) (ht : P.underlying t = some (.map k e))
    (hm : a.eval m = .map (some b)) (h : MapAt K val w b cnt f)
    (hK : ∀ w', RangeAt K val w' b w.heap.size cnt f (fun x => (f x).isSome) cnt → w.grownBy w' none → w'.heap.size = w.heap.size + 1 → wpListIn F n P ops Q rest (a.put o.dst (.pointer (some ⟨w.heap.size, 0, none⟩))) w') : wpListIn F n P ops Q (o :: rest) a w := by
  refine wpListIn_plain hg fun K' hK' => ?_
  obtain ⟨w', hrun, r1, r2, r3⟩ := h.range ht
  unfold Oper.wpIn
  refine ⟨?_, ?_⟩
  · simp [Oper.about, hop]
  · rw [Oper.semAt_plain F _ _ (by rw [hop]; intro c hc'; cases hc')]
    simp [execOp, hop, hm, hrun, Result.andThen]
    exact hK' _ _ (hK w' r1 r2 r3)
theorem wpListIn_nextM {r nn : Nat} {left : α → Bool} (hg : o.guard = none) (it : Operand) (hop : o.op = Op.next it false) (hit : a.eval it = .pointer (some ⟨r, 0, none⟩)) (h : RangeAt K val w b r nn f left cnt) (hsup : ∀ x, left x = true → (f x).isSome = true)
    (hDone : cnt = 0 → (∀ x, K.ok x → left x = false) → wpListIn F n P ops Q rest (a.put o.dst (.tuple #[.bool false])) w)
    (hMore : ∀ (x : α) (y : β) (w' : World) (cnt' : Nat), K.ok x → left x = true → f x = some y → RangeAt K val w' b r nn f (fun z => left z && !decide (z = x)) cnt' → cnt' < cnt → w.grownBy w' (some r) → w'.heap.size = w.heap.size →
      (Instr.entry (.pointer (some ⟨r, 0, none⟩))).run P w' = .ok (.tuple #[K.mkv x, val y]) w' → wpListIn F n P ops Q rest (a.put o.dst (.tuple #[.bool true, K.mkv x, val y])) w') : wpListIn F n P ops Q (o :: rest) a w := by
  refine wpListIn_plain hg fun K' hK' => ?_
  unfold Oper.wpIn
  refine ⟨by simp [Oper.about, hop], ?_⟩
  rw [Oper.semAt_plain F _ _ (by rw [hop]; intro c hc'; cases hc')]
  rcases h.next hsup o.type with ⟨h0, hl, hrun⟩ | ⟨x, y, w', cnt', hx, hlx, hfx, hrun, hrg, hlt, hgr, hsz, hen⟩
  · simp [execOp, hop, hit, hrun, Result.andThen]
    exact hK' _ _ (hDone h0 hl)
  · simp [execOp, hop, hit, hrun, Result.andThen]
    exact hK' _ _ (hMore x y w' cnt' hx hlx hfx hrg hlt hgr hsz hen)
omit [DecidableEq α] in
theorem RangeAt.walk {r nn : Nat} {left : α → Bool} {w : World} (h : RangeAt K val w b r nn f left cnt) : ∃ o : Obj, w.heap[r]? = some o ∧ o.isWalk = true := by
  obtain ⟨D, lf, h1, _⟩ := h
  exact h1.iter_walk
omit [DecidableEq α] in
theorem RangeAt.of_walks {r nn : Nat} {left : α → Bool} {w w' : World} (h : RangeAt K val w b r nn f left cnt) (hk : KeepsWalks w w') : RangeAt K val w' b r nn f left cnt := by
  obtain ⟨D, lf, h1, h2⟩ := h
  exact ⟨D, lf, h1.of_walks hk, h2⟩
end

/-- the keys that have come -/
structure Came (bs : List Bd) (left : Bd → Bool) (cnt : Nat) (ss : List Bd) : Prop where
  nod : ss.Nodup
  mem : ∀ x, x ∈ ss ↔ x ∈ bs ∧ left x = false
  sup : ∀ x, left x = true → x ∈ bs
theorem Came.start (bs : List Bd) : Came bs (fun x => (setF bs x).isSome) bs.length [] := by
  refine ⟨List.nodup_nil, fun x => ⟨fun h => (by cases h), fun ⟨h1, h2⟩ => ?_⟩, fun x h => ?_⟩
  · rw [setF_mem h1] at h2; cases h2
  · by_cases q : x ∈ bs
    · exact q
    · rw [setF_not q] at h; cases h
theorem Came.next {bs : List Bd} {left : Bd → Bool} {cnt cnt' : Nat} {ss : List Bd} (h : Came bs left cnt ss) {x : Bd} (hx : left x = true) : Came bs (fun z => left z && !decide (z = x)) cnt' (ss ++ [x]) := by
  refine ⟨?_, fun z => ?_, fun z hz => h.sup z (by simp at hz; exact hz.1)⟩
  · rw [List.nodup_append]
    refine ⟨h.nod, by simp, fun a ha c hc e => ?_⟩
    rw [List.mem_singleton] at hc
    subst hc; subst e
    have := ((h.mem _).1 ha).2
    rw [hx] at this; cases this
  · rw [List.mem_append, List.mem_singleton, h.mem]
    constructor
    · rintro (⟨h1, h2⟩ | rfl)
      · exact ⟨h1, by simp [h2]⟩
      · exact ⟨h.sup _ hx, by simp⟩
    · rintro ⟨h1, h2⟩
      by_cases e : z = x
      · exact .inr e
      · refine .inl ⟨h1, ?_⟩
        simpa [e] using h2
theorem Came.done {bs : List Bd} {left : Bd → Bool} {cnt : Nat} {ss : List Bd} (h : Came bs left cnt ss) (hl : ∀ x ∈ bs, left x = false) : ∀ x, x ∈ ss ↔ x ∈ bs := fun x => by
  rw [h.mem]; exact ⟨fun q => q.1, fun q => ⟨q, hl x q⟩⟩
theorem Came.few {bs : List Bd} {left : Bd → Bool} {cnt : Nat} {ss : List Bd} (h : Came bs left cnt ss) (hnd : bs.Nodup) {x : Bd} (hx : left x = true) : ss.length < bs.length := by
  have h2 := (h.next (cnt' := 0) hx)
  have := List.Nodup.length_le_of_subset h2.nod (fun y hy => ((h2.mem y).1 hy).1)
  simp at this
  omega

set_option maxHeartbeats 2000000 in
theorem keysB_in (n : Nat) (hn : 1 ≤ n) (l Bm b n₀ : Nat) (bs : List Bd) (hnd : bs.Nodup) (hfit : ∀ x ∈ bs, x.1.size ≤ maxLen ∧ x.2.size ≤ maxLen) (hbn : b < n₀) (J Jx : List Bd → World → Prop)
    (hY : ∀ pre x W, J pre W → pre.length < bs.length → YieldAt Fence.wide (n - 1) Try.prog l #[bdV x] W fun e W' =>
      (e = .returned (.bool true) ∧ J (pre ++ [x]) W' ∧ KpW n₀ W W') ∨ (e = .returned (.bool false) ∧ Jx (pre ++ [x]) W'))
    (W : World) (hJ : AbidesFrom W.heap.size J) (hBm : W.cell? ⟨Bm, 0, none⟩ = some (.map (some b))) (hown : MapAt bdKeys tt W b bs.length (setF bs)) (h0 : J [] W) :
    CallsIn Fence.wide n Try.prog 76 #[.func (.yield l) #[] #[], .pointer (some ⟨Bm, 0, none⟩)] W fun e W' => (∃ v, e = .returned v) ∧ ((∃ xs, (xs.Nodup ∧ ∀ x, x ∈ xs ↔ x ∈ bs) ∧ J xs W') ∨ (∃ pre, True ∧ Jx pre W')) := by
  refine callsIn_of_wp Try.func76 rfl trivial ?_ rfl
  simp only [Try.ntmps76, List.size_toArray, List.length_cons, List.length_nil, Nat.reduceAdd, Nat.reduceSub, Array.replicate_succ, Array.replicate_zero, List.push_toArray, List.append_toArray, List.nil_append, List.cons_append]
  gi_wp2_with (first
    | (gi_at_range; refine wpListIn_rangeM (K := bdKeys) (val := tt) _ rfl _ 81 4 rfl Try.underlying81 rfl hown ?_; intro w0 hrg0 hg0 hs0)
    | gi_in)
  go_frame
  gi_loopw [3] (fun _ wr => ∃ (left : Bd → Bool) (cnt : Nat) (ss : List Bd), RangeAt bdKeys tt wr b W.heap.size bs.length (setF bs) left cnt ∧ Came bs left cnt ss ∧ J ss wr)
    (fun _ wr => wr.rangeLeft b W.heap.size)
  case atStart =>
    exact ⟨_, _, [], hrg0, Came.start bs, hJ [] W w0 none h0 hg0 (fun r e => by cases e)⟩
  case round =>
    obtain ⟨left, cnt, ss, hrg, hC, hJs⟩ := hrel
    gi_wp2_with (first
      | (gi_at_next; refine wpListIn_nextM (K := bdKeys) (val := tt) _ rfl _ rfl rfl hrg (fun x hx => by rw [setF_mem (hC.sup x hx)]; rfl) ?_ ?_)
      | gi_in)
    · intro hc0 hl0
      gi_wp2
      go_end0
      exact ⟨⟨_, rfl⟩, .inl ⟨ss, ⟨hC.nod, hC.done (fun x hx => hl0 x.1 x.2 (hfit x hx))⟩, hJs⟩⟩
    · intro x1 x2 c w2 cnt2 hkx hlx hfx hrg2 hlt hg2 hs2 hen
      have hJ2 : J ss w2 := hJ ss wr w2 (some W.heap.size) hJs hg2 (fun r e => by cases e; exact ⟨Nat.le_refl _, RangeAt.walk hrg⟩)
      have hJ3 := hJ ss w2 (w2.alloc (.cells #[.string x1, .string x2] bdT)) none hJ2 (World.grownBy_alloc _ _ _) (fun r e => by cases e)
      obtain ⟨fn, tmps, assign, body, hy, hR⟩ := hY ss (x1, x2) _ hJ3 (hC.few hnd hlx)
      have hrg3 := hrg2.kept (World.grownBy_alloc w2 (.cells #[.string x1, .string x2] bdT) none) (by simp) (by simp)
      have hen' : (Instr.entry (.pointer (some ⟨W.heap.size, 0, none⟩))).run Try.prog w2 = .ok (.tuple #[.agg #[.string x1, .string x2], .bool true]) w2 := hen
      have hkm : bdKeys.mkv (x1, x2) = .agg #[.string x1, .string x2] := rfl
      have htt : tt c = .bool true := rfl
      have hy' : _ := hy
      unfold bdV at hy'
      obtain ⟨c0, c1⟩ := bd2 (cellsAt_alloc w2 [.string x1, .string x2] bdT)
      rw [hkm, htt]
      clear hs2 hen hkm htt hy
      gi_wp2
      refine hR.mono ?_
      rintro e W3 (⟨rfl, hJ4, hk4⟩ | ⟨rfl, hJx4⟩)
      · have hrg4 := RangeAt.of_walks hrg3 hk4.1
        gi_wp2
        go_roundw
        case rel => exact ⟨_, cnt2, ss ++ [(x1, x2)], hrg4, hC.next hlx, hJ4⟩
        case measure => rw [hrg4.left_eq, hrg.left_eq]; exact hlt
      · gi_wp2
        refine bodyPost_ret (results_none rfl _ _ _) rfl ?_
        exact ⟨⟨_, rfl⟩, .inr ⟨_, trivial, hJx4⟩⟩
end Go.Proofs.Ytheigpiffdabnaa.Mds
