/-
  CONTRACTS: identity.Update of valid identities and items that ascend, where there is room.
-/
import Derived.Test.YtcplhnpblpmalaaNumbW
namespace Go.Proofs.Ytcplhnpblpmalaa.Idn
open Go Go.RowKit Go.Maps
set_option linter.unusedVariables false
set_option maxRecDepth 1000000
set_option linter.unusedSimpArgs false

theorem bef_trans {a b c : It} (h1 : befB a b = true) (h2 : befB b c = true) : befB a c = true := by
  unfold befB ltS at *
  simp only [Bool.or_eq_true, Bool.and_eq_true, beq_iff_eq] at *
  rcases h1 with h1 | ⟨e1, h1⟩
  · rcases h2 with h2 | ⟨e2, h2⟩
    · exact .inl (less_trans _ _ _ h1 h2)
    · exact .inl (by rw [← e2]; exact h1)
  · rcases h2 with h2 | ⟨e2, h2⟩
    · exact .inl (by rw [e1]; exact h2)
    · exact .inr ⟨e1.trans e2, less_trans _ _ _ h1 h2⟩
theorem bef_ne {a b : It} (h : befB a b = true) : dfn a ≠ dfn b := by
  intro e
  unfold dfn at e
  injection e with e1 e2
  unfold befB ltS at h
  rw [e1, e2, less_irrefl, less_irrefl] at h
  simp at h
theorem asc_pw : ∀ {l : List It}, ascI l = true → l.Pairwise fun a b => befB a b = true
  | [], _ => List.Pairwise.nil
  | [a], _ => List.pairwise_singleton _ _
  | a :: b :: l, h => by
    unfold ascI at h
    rw [Bool.and_eq_true] at h
    have ih := asc_pw h.2
    rw [List.pairwise_cons] at ih
    refine List.pairwise_cons.2 ⟨fun c hc => ?_, asc_pw h.2⟩
    rcases List.mem_cons.1 hc with rfl | hc
    · exact h.1
    · exact bef_trans h.1 (ih.1 c hc)
theorem asc_dif {l : List It} (h : ascI l = true) : Dif l := (asc_pw h).imp (fun {a b} h => bef_ne h)

def tyInts (k : Nat) (L : List Int) : Ty LeW := ⟨{b : Nat // True}, ⟨⟨0, trivial⟩⟩, fun b => .slice (some ⟨b.1, 0, none⟩) k k, fun b w => SlIs encI w (.slice (some ⟨b.1, 0, none⟩) k k) L, fun x w w' hl h => h.below hl⟩
theorem tyInts_f (k : Nat) (L : List Int) (b : Nat) (h : True) : (tyInts k L).f ⟨b, h⟩ = .slice (some ⟨b, 0, none⟩) k k := rfl
def tyIds (nx : Int) (L : List En) : Ty LeW := ⟨{b : Option Addr × Nat × Nat // True}, ⟨⟨(none, 0, 0), trivial⟩⟩, fun b => .agg #[.int .i64 nx, .slice b.1.1 b.1.2.1 b.1.2.2], fun b w => SlIs encEn w (.slice b.1.1 b.1.2.1 b.1.2.2) L, fun x w w' hl h => h.below hl⟩
theorem tyIds_f (nx : Int) (L : List En) (q : Option Addr) (m c : Nat) (h : True) : (tyIds nx L).f ⟨(q, m, c), h⟩ = .agg #[.int .i64 nx, .slice q m c] := rfl
def tyZ2 (B : Nat) : Ty LeW := ⟨{b : Nat // True}, ⟨⟨0, trivial⟩⟩, fun b => .pointer (some ⟨b.1, 0, none⟩), fun b w => w.heap[b.1]? = some (.cells #[.int .i64 0, .slice none 0 0] 29 (0, 0)) ∧ B ≤ b.1, fun x w w' hl h => ⟨by rw [Below.block hl x.1 (Array.getElem?_eq_some_iff.1 h.1).1]; exact h.1, h.2⟩⟩
theorem tyZ2_f (B b : Nat) (h : True) : (tyZ2 B).f ⟨b, h⟩ = .pointer (some ⟨b, 0, none⟩) := rfl
theorem results_cell2 {fn : Func} {t t2 : Tmp} {ty : TypeId} (h : fn.results = #[.cell t ty, .tmp t2]) (tmps : Array Value) (P : Program) (w : World) (a : Addr) (v v2 : Value) (ht : tmps.getD t undef = .pointer (some a)) (ht2 : tmps.getD t2 undef = v2) (hl : (loadVar ty a).run P w = .ok v w) :
    (results fn tmps).run P w = .ok (.tuple #[v, v2]) w := by
  have ht' : tmps[t]?.getD undef = .pointer (some a) := by simpa using ht
  have ht2' : tmps[t2]?.getD undef = v2 := by simpa using ht2
  simp [results, h, ht', ht2', asAddr, hl]
theorem given_num (next : Int) (L : List En) (l : List It) : given next L l = number next (((pairV (leftV L l) (kept0 L l)).map (·.1)).zip l) ∧ nextV next L l = next + (zeros (((pairV (leftV L l) (kept0 L l)).map (·.1)).zip l) : Nat) := by
  have e : ((pairV (leftV L l) (kept0 L l)).map (·.1)).zip l = pairV (leftV L l) (kept0 L l) := by
    have h2 : (pairV (leftV L l) (kept0 L l)).map (·.2) = l := by simp [pairV, kept0, Function.comp_def]
    conv => lhs; arg 2; rw [← h2]
    refine List.ext_getElem (by simp) (fun i h1 h2 => ?_)
    simp
  rw [e]
  exact ⟨rfl, rfl⟩

/-- a store into a box of two cells leaves lists of identities -/
theorem SlIs.aside {w : World} {v : Value} {L : List En} {b : Nat} (h : SlIs encEn w v L) (hb : ∃ cs T fr, w.heap[b]? = some (.cells cs T fr) ∧ cs.size = 2) (i : Nat) (u : Value) : SlIs encEn (w.setCell ⟨b, i, none⟩ u) v L := by
  obtain ⟨cs, T, fr, hb, hsz⟩ := hb
  obtain ⟨p, cap, e, h1, h2, h3⟩ := h
  refine ⟨p, cap, e, h1, h2, fun h0 => ?_⟩
  obtain ⟨b', off, e2, hc⟩ := h3 h0
  refine ⟨b', off, e2, fun j x hx => ?_⟩
  have hne : b' ≠ b := by
    intro q
    subst q
    have := (enAt hc 0 h0).2.2.2
    rw [Lib.cell_of_heap hb, Array.getElem?_eq_none (by omega)] at this
    cases this
  rw [cell_apart (fun q => by injection q with q _ _; exact hne q)]
  exact hc j x hx

set_option maxHeartbeats 4000000 in
set_option maxRecDepth 1000000 in
theorem updateOk_any (next : Int) (p : Option Addr) (n cap : Nat) (L : List En) (p2 : Option Addr) (n2 cap2 : Nat) (l : List It) (w : World) (hk : Chk next L) (ha : ascI l = true)
    (hs : SlIs encEn w (.slice p n cap) L) (hf : FitsE L) (hLl : L.length ≤ 1000) (hs2 : SlIs encIt w (.slice p2 n2 cap2) l) (hfi : FitsI l) (hll : l.length ≤ 12) (hroom : nextV next L l ≤ 1099511627776) :
    Calls Try.prog 16 #[.agg #[.int .i64 next, .slice p n cap], .slice p2 n2 cap2] w fun e w' => ∃ q m c, e = .returned (.tuple #[.agg #[.int .i64 (nextV next L l), .slice q m c], .int .i64 0]) ∧ SlIs encEn w' (.slice q m c) (byId (given next L l)) ∧ Below w.heap.size w w' := by
  have hn2 : n2 = l.length := (hs2.lies).1
  have hnb : (n2 : Int) ≤ 12 := by omega
  have hd := asc_dif ha
  obtain ⟨g1, g2⟩ := given_num next L l
  have HG1 := Lib.hid g1
  have HG2 := Lib.hid g2
  generalize hnx : nextV next L l = nx at *
  have HW0 : Hid (Below w.heap.size w ((w.alloc (.cells #[.int .i64 next, .slice p n cap] 29)).alloc (.cells #[.int .i64 0, .slice none 0 0] 29))) := bnext (below_box w _) (below_box _ _)
  have HX0 := Lib.hid ((cellsAt_alloc w [.int .i64 next, .slice p n cap] 29).below (below_box _ (.cells #[.int .i64 0, .slice none 0 0] 29)))
  have HRB0 : Hid (((w.alloc (.cells #[.int .i64 next, .slice p n cap] 29)).alloc (.cells #[.int .i64 0, .slice none 0 0] 29)).heap[w.heap.size + 1]? = some (.cells #[.int .i64 0, .slice none 0 0] 29 (0, 0))) := by
    have := heap_alloc_new (w.alloc (.cells #[.int .i64 next, .slice p n cap] 29)) (.cells #[.int .i64 0, .slice none 0 0] 29)
    simp only [World.size_alloc] at this
    exact this
  have HRL0 : Hid (w.heap.size + 1 < ((w.alloc (.cells #[.int .i64 next, .slice p n cap] 29)).alloc (.cells #[.int .i64 0, .slice none 0 0] 29)).heap.size) := by unfold Hid; simp
  have HS0 := Lib.hid (hs.below HW0.out)
  have HT0 := Lib.hid (hs2.below HW0.out)
  have HK := Lib.hid hk
  have HA := Lib.hid ha
  have HD := Lib.hid hd
  have HF := Lib.hid hf
  have HFI := Lib.hid hfi
  have HLL := Lib.hid hLl
  have Hll := Lib.hid hll
  have HRM := Lib.hid hroom
  have HN2 := Lib.hid hn2
  clear hk ha hd hs hs2 hf hfi hLl g1 g2 hnx hn2
  go_enter Try.func16, Try.ntmps16
  go_wp2_with (first
    | (go_at_call 17; generalize hw0 : (w.alloc (.cells #[.int .i64 next, .slice p n cap] 29)).alloc (.cells #[.int .i64 0, .slice none 0 0] 29) = W0 at *; refine (checkOk_any next p n cap L W0 (by have := HLL.out; omega) HS0.out HF.out HK.out).mono ?_; rintro e w2 ⟨rfl, hb2⟩; have HB2 := Lib.hid hb2; clear hb2)
    | (go_at_call 38; refine (itemsAscend_any p2 n2 cap2 l w2 (by omega) (HT0.out.below HB2.out)).mono ?_; rintro e w3 ⟨rfl, hb3⟩; have HB3 := Lib.hid hb3; rw [HA.out]; clear hb3)
    | go_in)
  have HO3 := Lib.hid (bnext HB2.out HB3.out)
  have HX := Lib.hid (HX0.out.below HO3.out).drew1
  have HSS := Lib.hid ((HS0.out.below HO3.out).below (Below.refl _ _).drew)
  have HTT := Lib.hid ((HT0.out.below HO3.out).below (Below.refl _ _).drew)
  have HKP : Hid (∀ w', LeW w3.drew w' → Calls Try.prog 41 #[.slice p n cap, .slice p2 n2 cap2] w' fun e w'' => ∃ mb, e = .returned (.slice (some ⟨mb, 0, none⟩) l.length l.length) ∧ OwnL encI intT w'' w'.heap.size (.slice (some ⟨mb, 0, none⟩) l.length l.length) ((pairV (leftV L l) (kept0 L l)).map (·.1)) ∧ Below w'.heap.size w' w'') :=
    fun w' hl => kept_any p n cap L p2 n2 cap2 l next w' HK.out HD.out (HSS.out.below hl) HF.out HLL.out (HTT.out.below hl) HFI.out (by omega)
  have HNM : Hid (∀ w' mb, LeW w3.drew w' → SlIs encI w' (.slice (some ⟨mb, 0, none⟩) l.length l.length) ((pairV (leftV L l) (kept0 L l)).map (·.1)) → Calls Try.prog 40 #[.slice p2 n2 cap2, .slice (some ⟨mb, 0, none⟩) l.length l.length, .int .i64 next] w' fun e w'' => ∃ q m c, e = .returned (.agg #[.int .i64 nx, .slice q m c]) ∧ SlIs encEn w'' (.slice q m c) (byId (given next L l)) ∧ Below w'.heap.size w' w'') :=
    fun w' mb hl hids => by
      have := numbered_any p2 n2 cap2 l (some ⟨mb, 0, none⟩) l.length l.length ((pairV (leftV L l) (kept0 L l)).map (·.1)) next w' (HTT.out.below hl) hids (by simp [pairV, kept0]) (by omega) HK.out.low HK.out.high (by rw [← HG1.out]; exact (given_apart HK.out HD.out).1)
      rw [← HG1.out, ← HG2.out] at this
      exact this
  clear HB2 HB3 HX0
  apply wp_region_relT LeW.refl LeW.trans 9
  case hm => kernel_rfl
  case hB => kernel_rfl
  simp only [List.take_succ_cons, List.take_zero, List.drop_succ_cons, List.drop_zero]
  apply wpRel_cons (t := tyIs _ _)
  case h1 => (intro w' hl hd2; clear hl hd2; unfold relAt; go_simp; exact rel_is LeW.refl)
  intro _
  rw [tyIs_f]
  go_simp
  apply wpRel_cons (t := tyIs _ _)
  case h1 => (intro w' hl hd2; obtain ⟨x0, x1⟩ := en2 (HX.out.below hl); clear hl hd2; unfold relAt; go_simp; exact rel_is LeW.refl)
  intro _
  rw [tyIs_f]
  go_simp
  apply wpRel_cons (t := tyIs _ _)
  case h1 => (intro w' hl hd2; obtain ⟨x0, x1⟩ := en2 (HX.out.below hl); clear hl hd2; unfold relAt; go_simp; exact rel_is LeW.refl)
  intro _
  rw [tyIs_f]
  go_simp
  apply wpRel_cons (t := tyIs _ _)
  case h1 => (intro w' hl hd2; clear hl hd2; unfold relAt; go_simp; exact rel_is LeW.refl)
  intro _
  rw [tyIs_f]
  go_simp
  apply wpRel_cons (t := tyInts l.length ((pairV (leftV L l) (kept0 L l)).map (·.1)))
  case h1 => (intro w' hl hd2; have hk := HKP.out w' hl; clear hl hd2; unfold relAt; go_simp; refine ⟨LeW.refl _, ?_⟩; refine hk.mono ?_; rintro e w'' ⟨mb, rfl, ho, hb⟩; exact ⟨⟨mb, trivial⟩, rfl, hb, ho.sl⟩)
  rintro ⟨mb, -⟩
  rw [tyInts_f]
  go_simp
  apply wpRel_cons (t := tyIs _ _)
  case h1 => (intro w' hl hd2; obtain ⟨x0, x1⟩ := en2 (HX.out.below hl); clear hl hd2; unfold relAt; go_simp; exact rel_is LeW.refl)
  intro _
  rw [tyIs_f]
  go_simp
  apply wpRel_cons (t := tyIs _ _)
  case h1 => (intro w' hl hd2; obtain ⟨x0, x1⟩ := en2 (HX.out.below hl); clear hl hd2; unfold relAt; go_simp; exact rel_is LeW.refl)
  intro _
  rw [tyIs_f]
  go_simp
  apply wpRel_cons (t := tyIds nx (byId (given next L l)))
  case h1 => (intro w' hl hd2; have hx := fact_lw hd2 (j := 4) (by kernel_rfl); simp [upd] at hx; have hx2 : SlIs encI w' (.slice (some ⟨mb, 0, none⟩) l.length l.length) ((pairV (leftV L l) (kept0 L l)).map (·.1)) := hx; have hk := HNM.out w' mb hl hx2; clear hl hd2 hx hx2; unfold relAt; go_simp; refine ⟨LeW.refl _, ?_⟩; refine hk.mono ?_; rintro e w'' ⟨q, m, c, rfl, hs, hb⟩; exact ⟨⟨(q, m, c), trivial⟩, rfl, hb, hs⟩)
  rintro ⟨⟨q, m, c⟩, -⟩
  rw [tyIds_f]
  go_simp
  apply wpRel_cons (t := tyZ2 W0.heap.size)
  case h1 => (intro w' hl hd2; have h9 : w3.drew.heap.size ≤ w'.heap.size := Below.size hl; have hsz : W0.heap.size ≤ w'.heap.size := Nat.le_trans HO3.out.size h9; clear hl hd2; unfold relAt; go_simp; refine ⟨below_box _ _, ⟨_, trivial⟩, rfl, ?_⟩; exact ⟨heap_alloc_new _ _, hsz⟩)
  rintro ⟨eb, -⟩
  rw [tyZ2_f]
  go_simp
  apply wpRel_nil (Ts := [])
  intro w4 hl hF
  have hz := hF 8
  simp [upd] at hz
  have HZ : Hid (w4.heap[eb]? = some (.cells #[.int .i64 0, .slice none 0 0] 29 (0, 0))) := hz.1
  have HEB : Hid (W0.heap.size ≤ eb) := hz.2
  have hi := hF 7
  simp [upd] at hi
  have HI : Hid (SlIs encEn w4 (.slice q m c) (byId (given next L l))) := hi
  have HO4 := Lib.hid (bnext HO3.out (bnext ((Below.refl _ w3).drew) hl))
  have hr4 : w4.heap[w.heap.size + 1]? = some (.cells #[.int .i64 0, .slice none 0 0] 29 (0, 0)) := (HO4.out.block _ HRL0.out).trans HRB0.out
  have r0 : w4.cell? ⟨w.heap.size + 1, 0, none⟩ = some (.int .i64 0) := by rw [Lib.cell_of_heap hr4]; rfl
  have r1 : w4.cell? ⟨w.heap.size + 1, 1, none⟩ = some (.slice none 0 0) := by rw [Lib.cell_of_heap hr4]; rfl
  have rf : ∀ i, w4.frozen? ⟨w.heap.size + 1, i, none⟩ = false := fun i => Lib.frozen_of_heap hr4 i
  have hne : ∀ i k, (⟨w.heap.size + 1, i, none⟩ : Addr) ≠ ⟨eb, k, none⟩ := fun i k q => by injection q with q _ _; have := HRL0.out; have := HEB.out; omega
  have R0 := fun u v => (cell_apart (w := w4.setCell ⟨eb, 0, none⟩ u) (hne 0 1) v).trans ((cell_apart (hne 0 0) u).trans r0)
  have R1 := fun u v => (cell_apart (w := w4.setCell ⟨eb, 0, none⟩ u) (hne 1 1) v).trans ((cell_apart (hne 1 0) u).trans r1)
  have HHN := Lib.hid hne
  have HR4 := Lib.hid hr4
  clear r0 r1 hne hr4
  have Z0 : w4.cell? ⟨eb, 0, none⟩ = some (.int .i64 0) := by rw [Lib.cell_of_heap HZ.out]; rfl
  have Z1 : w4.cell? ⟨eb, 1, none⟩ = some (.slice none 0 0) := by rw [Lib.cell_of_heap HZ.out]; rfl
  have ZF : ∀ i, w4.frozen? ⟨eb, i, none⟩ = false := fun i => Lib.frozen_of_heap HZ.out i
  clear hz hi hl hF HX HKP HNM
  go_wp2_with fail
  have g1 : ∀ (u : World) (b i : Nat) (v : Value), u.grownBy (u.setCell ⟨b, i, none⟩ v) (some b) := fun u b i v => ⟨rfl, rfl, rfl, by simp, fun k _ hk => heap_setCell_other u ⟨b, i, none⟩ k _ (fun e => hk (by simp [e]))⟩
  have hrb : ((w4.setCell ⟨eb, 0, none⟩ (.int .i64 nx)).setCell ⟨eb, 1, none⟩ (.slice q m c)).heap[w.heap.size + 1]? = some (.cells #[.int .i64 0, .slice none 0 0] 29 (0, 0)) := by
    have h1 : w.heap.size + 1 ≠ eb := fun e => HHN.out 0 0 (by rw [e])
    have hl := Nat.lt_of_lt_of_le HRL0.out HO4.out.size
    rw [(g1 (w4.setCell ⟨eb, 0, none⟩ (.int .i64 nx)) eb 1 (.slice q m c)).block _ (by simpa using hl) (by simpa using h1), (g1 w4 eb 0 (.int .i64 nx)).block _ hl (by simpa using h1)]
    exact HR4.out
  refine bodyPost_ret (results_cell2 rfl _ _ _ ⟨w.heap.size + 1, 0, none⟩ _ _ rfl rfl (load_ids _ _ nx (.slice q m c) (heap_setCell_same _ _ _ _ _ _ (heap_setCell_same _ _ _ _ _ _ hrb)))) rfl ?_
  refine ⟨q, m, c, rfl, ?_, ?_⟩
  · have h1 : w.heap.size + 1 ≠ eb := fun e => HHN.out 0 0 (by rw [e])
    have k0 := SlIs.aside HI.out ⟨_, _, _, HZ.out, rfl⟩ 0 (.int .i64 nx)
    have e0 := heap_setCell_same w4 eb 0 _ _ (.int .i64 nx) HZ.out
    have k1 := SlIs.aside k0 ⟨_, _, _, e0, rfl⟩ 1 (.slice q m c)
    have k2 := SlIs.aside k1 ⟨_, _, _, hrb, rfl⟩ 0 (.int .i64 nx)
    exact SlIs.aside k2 ⟨_, _, _, heap_setCell_same _ _ _ _ _ (.int .i64 nx) hrb, rfl⟩ 1 (.slice q m c)
  · have b0 := HW0.out.trans (HO4.out.mono HW0.out.size)
    have s0 := b0.size
    have e0 := HEB.out
    have e1 := HW0.out.size
    have b1 := b0.trans ((Below.refl _ _).grown (g1 w4 eb 0 (.int .i64 nx)) b0.size (fun k hk => by cases hk; omega))
    have b2 := b1.trans ((Below.refl _ _).grown (g1 _ eb 1 (.slice q m c)) b1.size (fun k hk => by cases hk; omega))
    have b3 := b2.trans ((Below.refl _ _).grown (g1 _ (w.heap.size + 1) 0 (.int .i64 nx)) b2.size (fun k hk => by cases hk; omega))
    exact b3.trans ((Below.refl _ _).grown (g1 _ (w.heap.size + 1) 1 (.slice q m c)) b3.size (fun k hk => by cases hk; omega))
end Go.Proofs.Ytcplhnpblpmalaa.Idn
