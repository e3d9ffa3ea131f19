/-
  CONTRACTS: identity.kept: the number that each item keeps, by its definition or by its shape.
-/
import Derived.Test.YtcplhnpblpmalaaPair
namespace Go.Proofs.Ytcplhnpblpmalaa.Idn
open Go Go.RowKit Go.Maps
set_option linter.unusedVariables false
set_option maxRecDepth 1000000
set_option linter.unusedSimpArgs false

def keptJ (L : List En) (l : List It) (j : Nat) : List Int := (List.range l.length).map fun i => if i < j then idOf L (dfn (l.getD i it0)) else 0
theorem keptJ_len (L : List En) (l : List It) (j : Nat) : (keptJ L l j).length = l.length := by simp [keptJ]
theorem keptJ_zero (L : List En) (l : List It) : keptJ L l 0 = List.replicate l.length 0 := by
  unfold keptJ
  simp only [Nat.not_lt_zero, if_false]
  exact List.map_const'.trans (by simp)
theorem keptJ_step (L : List En) (l : List It) (j : Nat) (h : j < l.length) : (keptJ L l j).set j (idOf L (dfn (l.getD j it0))) = keptJ L l (j + 1) := by
  refine List.ext_getElem (by simp [keptJ]) (fun i h1 h2 => ?_)
  rw [List.getElem_set]
  simp only [keptJ, List.getElem_map, List.getElem_range]
  by_cases e : j = i
  · subst e; simp
  · rw [if_neg e]
    by_cases q : i < j
    · rw [if_pos q, if_pos (by omega)]
    · rw [if_neg q, if_neg (by omega)]
theorem keptJ_end (L : List En) (l : List It) : keptJ L l l.length = (kept0 L l).map (·.1) := by
  refine List.ext_getElem (by simp [keptJ, kept0]) (fun i h1 h2 => ?_)
  have hi : i < l.length := by simpa [keptJ] using h1
  simp [keptJ, kept0, hi, List.getD]
theorem keptJ_zip (L : List En) (l : List It) : (keptJ L l l.length).zip l = kept0 L l := by
  rw [keptJ_end]
  unfold kept0
  rw [List.map_map]
  refine List.ext_getElem (by simp) (fun i h1 h2 => ?_)
  simp
/-- what is left of the identities behind so many items -/
def leftF (L : List En) (l : List It) (j : Nat) : Df → Option En := fun d => if (l.take j).any (fun x => decide (dfn x = d)) = true then none else at? L d
theorem leftF_step (L : List En) (l : List It) (j : Nat) (h : j < l.length) : updM (leftF L l j) (dfn (l.getD j it0)) none = leftF L l (j + 1) := by
  funext d
  unfold updM leftF
  rw [take_one l it0 j h, List.any_append]
  by_cases e : d = dfn (l.getD j it0)
  · subst e; simp
  · have : (decide (dfn (l.getD j it0) = d)) = false := decide_eq_false (fun q => e q.symm)
    rw [if_neg e]
    simp only [List.any_cons, List.any_nil, this, Bool.or_false]
theorem leftF_at (L : List En) (l : List It) (hd : Dif l) (j : Nat) (h : j < l.length) : leftF L l j (dfn (l.getD j it0)) = at? L (dfn (l.getD j it0)) := by
  unfold leftF
  rw [if_neg]
  intro q
  obtain ⟨x, hx, e⟩ := List.any_eq_true.1 q
  have e := of_decide_eq_true e
  obtain ⟨i, hi, rfl⟩ := List.getElem_of_mem hx
  have hij : i < j := by simp at hi; omega
  have e2 : l.getD j it0 = l[j] := by simp [List.getD, List.getElem?_eq_getElem h]
  rw [e2, List.getElem_take] at e
  exact (List.pairwise_iff_getElem.1 hd) i j (by omega) h hij e
theorem leftF_end (L : List En) (l : List It) : leftF L l l.length = at? (leftV L l) := by
  funext d
  unfold leftF leftV
  rw [List.take_length]
  induction L with
  | nil => simp [at?]
  | cons y L ih =>
    rw [List.filter_cons, at_cons]
    by_cases e : dfn y.2 = d
    · subst e
      rw [if_pos rfl]
      by_cases q : (l.any fun x => decide (dfn x = dfn y.2)) = true
      · rw [if_pos q] at ih ⊢
        rw [if_neg (by simp only [q, Bool.not_true, Bool.false_eq_true, not_false_eq_true])]
        exact ih
      · rw [if_neg q, if_pos (by simpa using q), at_cons, if_pos rfl]
    · rw [if_neg e, ih]
      by_cases q : (!(l.any fun x => decide (dfn x = dfn y.2))) = true
      · rw [if_pos q, at_cons, if_neg e]
      · rw [if_neg q]
theorem look_id {L : List En} {w : World} {b cnt : Nat} {f : Df → Option En} (h : MapAt dfKeys enV w b cnt f) (d : Df) (hd : dfKeys.ok d) (hf : f d = at? L d) :
    ∃ a1 a2 a3, (Instr.lookup mapD (.map (some b)) (dfV d) false).run Try.prog w = .ok (.agg #[.int .i64 (idOf L d), .string a1, .string a2, .string a3]) w := by
  have hz : (zeroValue 39).run Try.prog w = .ok (.agg #[.int .i64 0, .string ⟨#[]⟩, .string ⟨#[]⟩, .string ⟨#[]⟩]) w := by kernel_rfl
  have := h.look (P := Try.prog) (t := mapD) Try.underlying74 hz d hd
  rw [hf] at this
  unfold idOf
  cases e : at? L d with
  | none => rw [e] at this; exact ⟨_, _, _, this⟩
  | some y => rw [e] at this; exact ⟨_, _, _, this⟩
theorem field_en (i : Int) (a b c : ByteArray) (w : World) : (Instr.field 39 (.agg #[.int .i64 i, .string a, .string b, .string c]) 0).run Try.prog w = .ok (.int .i64 i) w := by kernel_rfl
attribute [local go_sem] field_en

theorem cell_apart {w : World} {a b : Addr} (h : a ≠ b) (v : Value) : (w.setCell b v).cell? a = w.cell? a := by
  first
  | exact World.cell?_setCell_other _ _ _ _ h
  | exact World.cell?_setCell_other _ _ _ _ (fun e => h e.symm)
/-- the loop of kept under way -/
structure LoopK (w wr : World) (mb b c : Nat) (L : List En) (l : List It) (j : Nat) : Prop where
  old : Below w.heap.size w wr
  own : OwnL encI intT wr w.heap.size (.slice (some ⟨mb, 0, none⟩) l.length l.length) (keptJ L l j)
  map : ∃ cnt, cnt ≤ c ∧ MapAt dfKeys enV wr b cnt (leftF L l j)
  hmb : w.heap.size ≤ mb
  hb : w.heap.size ≤ b
  ne : mb ≠ b
theorem LoopK.below {w wr wx : World} {mb b c : Nat} {L : List En} {l : List It} {j : Nat} (h : LoopK w wr mb b c L l j) (hb : Below wr.heap.size wr wx) : LoopK w wx mb b c L l j := by
  obtain ⟨cnt, h1, h2⟩ := h.map
  exact ⟨h.old.trans (hb.mono h.old.size), h.own.below hb, ⟨cnt, h1, h2.below hb h2.lt⟩, h.hmb, h.hb, h.ne⟩
theorem LoopK.cell {w wr : World} {mb b c : Nat} {L : List En} {l : List It} {j : Nat} (h : LoopK w wr mb b c L l j) (i : Nat) (hi : i < l.length) : wr.cell? ⟨mb, i, none⟩ = some (.int .i64 ((keptJ L l j).getD i 0)) ∧ wr.frozen? ⟨mb, i, none⟩ = false := by
  have ho := h.own
  refine ⟨?_, ?_⟩
  · obtain ⟨-, -, -, h3⟩ := ho.sl.lies
    obtain ⟨ib', io', e, hc⟩ := h3 (by omega)
    injection e with e; injection e with e1 e2 _
    subst e1; subst e2
    have := intAt hc i (by rw [keptJ_len]; exact hi)
    simpa using this
  · unfold OwnL at ho
    rw [keptJ_len] at ho
    exact World.ownsRow.frozenAt ho i
theorem LoopK.next {w wr w2 : World} {mb b c : Nat} {L : List En} {l : List It} {j : Nat} (h : LoopK w wr mb b c L l j) (hj : j < l.length) {cnt cnt' : Nat}
    (hm : MapAt dfKeys enV w2 b cnt' (updM (leftF L l j) (dfn (l.getD j it0)) none)) (hc : cnt' ≤ cnt) (hcc : cnt ≤ c)
    (ht : (wr.setCell ⟨mb, j, none⟩ (.int .i64 (idOf L (dfn (l.getD j it0))))).mapTurned w2 b) : LoopK w w2 mb b c L l (j + 1) := by
  have ho := h.own
  unfold OwnL at ho
  rw [keptJ_len] at ho
  obtain ⟨s1, s2⟩ := World.ownsRow.stored ho j (.int .i64 (idOf L (dfn (l.getD j it0))))
  have hmb : mb < wr.heap.size := own_lt h.own rfl
  have hbl : b < (wr.setCell ⟨mb, j, none⟩ (.int .i64 (idOf L (dfn (l.getD j it0))))).heap.size := by obtain ⟨_, _, q⟩ := h.map; simpa using q.lt
  have b1 : Below w.heap.size wr (wr.setCell ⟨mb, j, none⟩ (.int .i64 (idOf L (dfn (l.getD j it0))))) := (Below.refl _ _).grown s2 h.old.size (fun k hk => by cases hk; exact h.hmb)
  have b2 := mapTurned_below (B := w.heap.size) ht h.hb hbl
  refine ⟨h.old.trans (b1.trans b2), ?_, ⟨cnt', by omega, by rw [← leftF_step L l j hj]; exact hm⟩, h.hmb, h.hb, h.ne⟩
  have o1 : OwnL encI intT (wr.setCell ⟨mb, j, none⟩ (.int .i64 (idOf L (dfn (l.getD j it0))))) w.heap.size (.slice (some ⟨mb, 0, none⟩) l.length l.length) (keptJ L l (j + 1)) := by
    rw [← keptJ_step L l j hj]
    unfold OwnL
    rw [List.length_set, keptJ_len, encI_set]
    exact s1
  exact own_same o1 (fun k hk => by
    cases hk
    exact ht.grown.block mb (by simpa using hmb) (by simp; exact h.ne))

set_option maxHeartbeats 4000000 in
set_option maxRecDepth 100000 in
theorem kept_any (p : Option Addr) (n cap : Nat) (L : List En) (p2 : Option Addr) (n2 cap2 : Nat) (l : List It) (next : Int) (w : World) (hk : Chk next L) (hd : Dif l)
    (hs : SlIs encEn w (.slice p n cap) L) (hf : FitsE L) (hLl : L.length ≤ 1000) (hs2 : SlIs encIt w (.slice p2 n2 cap2) l) (hfi : FitsI l) (hll : l.length ≤ 1000) :
    Calls Try.prog 41 #[.slice p n cap, .slice p2 n2 cap2] w fun e w' => ∃ mb, e = .returned (.slice (some ⟨mb, 0, none⟩) l.length l.length) ∧ OwnL encI intT w' w.heap.size (.slice (some ⟨mb, 0, none⟩) l.length l.length) ((pairV (leftV L l) (kept0 L l)).map (·.1)) ∧ Below w.heap.size w w' := by
  obtain ⟨hn, hc1, hc2, hlies⟩ := hs2.lies
  have hnb : (n2 : Int) ≤ 1000 := by omega
  have HBD := Lib.hid (byDefinition_any p n cap L w (by omega) hs hf)
  have Hn := Lib.hid hn
  have HK := Lib.hid hk
  have HD := Lib.hid hd
  have HF := Lib.hid hf
  have HFI := Lib.hid hfi
  have HLL := Lib.hid hLl
  have Hll := Lib.hid hll
  have HLS := Lib.hid hlies
  have HS2 := Lib.hid hs2
  subst hn
  clear hs hf hLl hfi hll hlies hk hd hs2
  obtain ⟨i0, hi0, hz0, hz1, hz2⟩ := info_parts info_int
  go_enter Try.func41, Try.ntmps41
  go_wp2_with (first
    | (go_at_call 43; refine (HBD.out).mono ?_; rintro e w1 ⟨b, rfl, hb1, hb2, hm1⟩; have HB1 := Lib.hid hb1; have HB2 := Lib.hid hb2; have HM1 := Lib.hid hm1; clear hb1 hb2 hm1 HBD)
    | (at_make; refine wpList_make_full _ rfl _ _ 22 rfl w.heap.size intT i0 (.int .i64 0) 1 Try.underlying22 hi0 hz0 hz1 .i64 .i64 _ _ l.length rfl rfl rfl rfl (by rw [hz2]; omega) (by unfold maxLen; omega) HB1.out.size ?_; intro w2 hown2 hgr2)
    | go_in)
  have HK0 : Hid (LoopK w w2 w1.heap.size b L.length L l 0) := by
    have hb2 : Below w1.heap.size w1 w2 := (Below.refl _ _).grown hgr2 (Nat.le_refl _) (fun k hk => by cases hk)
    refine ⟨HB1.out.trans (hb2.mono HB1.out.size), ?_, ⟨bdC L, bdC_le L, ?_⟩, HB1.out.size, HB2.out, ?_⟩
    · unfold OwnL
      rw [keptJ_len, keptJ_zero]
      have e1 : encI.all (List.replicate l.length 0) = (madeCells (Value.int IntKind.i64 0).cells (l.length * 1)).toList := by
        rw [Nat.mul_one, show (Value.int IntKind.i64 0).cells = #[.int .i64 0] from rfl, toList_madeCells_one]
        induction l.length with
        | zero => rfl
        | succ k ih => rw [List.replicate_succ, List.replicate_succ, encI.all_cons, ih]; rfl
      rw [e1]
      exact hown2
    · have e2 : leftF L l 0 = bdF L := by funext d; rw [bdF_at HK.out]; unfold leftF; simp
      rw [e2]
      exact HM1.out.below hb2 HM1.out.lt
    · have := HM1.out.lt; omega
  clear hown2 hgr2
  have HBM : Hid (b < w1.heap.size) := HM1.out.lt
  clear HM1 HB2
  generalize w1.heap.size = mb at *
  go_loopw [17] (fun i wr => ∃ j : Nat, j ≤ l.length ∧ i = .int .i64 j ∧ Hid (LoopK w wr mb b L.length L l j)) (fun i _ => l.length - (intOf i).toNat)
  case atStart => exact ⟨0, Nat.zero_le _, rfl, HK0⟩
  case round =>
    obtain ⟨j, hj, rfl, HR⟩ := hrel
    clear HK0
    by_cases hlt : j < l.length
    · obtain ⟨o, off, rfl, hc0⟩ := HLS.out (by omega)
      obtain ⟨q0, q1, q2⟩ := itAt ((hc0.below (Below.refl _ w)).below (show Below w.heap.size w wr from HR.out.old)) j hlt
      have HFJ := Lib.hid (fitI_at HFI.out j hlt)
      have HLF := Lib.hid (leftF_at L l HD.out j hlt)
      have HNX : Hid (∀ (wx : World) (cnt cnt' : Nat) (w2 : World), LoopK w wx mb b L.length L l j → MapAt dfKeys enV w2 b cnt' (updM (leftF L l j) (dfn (l.getD j it0)) none) → cnt' ≤ cnt → cnt ≤ L.length → (wx.setCell ⟨mb, j, none⟩ (.int .i64 (idOf L (dfn (l.getD j it0))))).mapTurned w2 b → LoopK w w2 mb b L.length L l (j + 1)) := fun wx cnt cnt' w2 h h1 h2 h3 h4 => h.next hlt h1 h2 h3 h4
      have HC0 := Lib.hid hc0
      generalize l.getD j it0 = x at *
      obtain ⟨m, nm, s⟩ := x
      obtain ⟨fm, fn, fs⟩ := HFJ.out
      have HOK : Hid (dfKeys.ok (m, nm)) := ⟨fm, fn⟩
      clear hc0 fm fn fs HFJ
      have HRX := Lib.hid (HR.out.below (below_box wr (.cells #[.string m, .string nm, .string s] 37)))
      have HX := Lib.hid (en3 (cellsAt_alloc wr [.string m, .string nm, .string s] 37))
      have HX0 := HX.out.1
      have HX1 := HX.out.2.1
      have HX2 := HX.out.2.2
      clear HX HR
      go_wp2_with (first
        | (go_at_call 44; refine (definitionOf_any (m, nm, s) _).mono ?_; rintro e w2 ⟨rfl, hb2⟩; unfold dfV dfn; have HR2 := Lib.hid (HRX.out.below hb2); clear HX0 HX1 HX2 hb2 HRX; have HR3 := Lib.hid (HR2.out.below (below_box w2 (.cells #[.string m, .string nm] 77))); obtain ⟨cnt, hcn, hmp⟩ := HR3.out.map; obtain ⟨a1, a2, a3, hlk⟩ := look_id hmp (m, nm) HOK.out HLF.out; unfold dfV at hlk; have HMP := Lib.hid hmp; have HCN := Lib.hid hcn; obtain ⟨k1, k2⟩ := HR3.out.cell j hlt; have hne : (⟨w2.heap.size, 0, none⟩ : Addr) ≠ ⟨mb, j, none⟩ := (fun q => by injection q with q1 _ _; have := own_lt HR2.out.own (k := mb) rfl; omega); have hne1 : (⟨w2.heap.size, 1, none⟩ : Addr) ≠ ⟨mb, j, none⟩ := (fun q => by injection q with q1 _ _; have := own_lt HR2.out.own (k := mb) rfl; omega); clear hmp hcn; obtain ⟨z0, z1⟩ := en2 (cellsAt_alloc w2 [.string m, .string nm] 77); have y0 := fun v => (cell_apart hne v).trans z0; have y1 := fun v => (cell_apart hne1 v).trans z1; clear z0 z1 hne hne1)
        | (at_delete; refine wpList_drop (K := dfKeys) (val := enV) _ rfl _ _ mapD 39 rfl Try.underlying74 rfl (HMP.out.same (Below.heap_setCell _ _ _ _ (fun q => HR3.out.ne q.symm))) (m, nm) rfl HOK.out ?_; intro w4 cnt4 hm4 hc4 ht4)
        | go_in)
      have HR4 := Lib.hid (HNX.out _ cnt cnt4 w4 HR3.out hm4 hc4 HCN.out ht4)
      clear hm4 hc4 ht4 HMP HCN HR3 HR2 HNX
      go_wp2_with fail
      go_roundw
      case rel => exact ⟨j + 1, by omega, by go_num, HR4⟩
      case measure => simp [intOf]; omega
    · have hje : j = l.length := by omega
      subst hje
      obtain ⟨cnt, hcn, hmp⟩ := HR.out.map
      rw [leftF_end] at hmp
      have hdif : DifE (leftV L l) := HK.out.dif.filter _
      have hfe : FitsE (leftV L l) := fun y hy => HF.out y (left_mem.1 hy).1
      have hrl : (leftV L l).length ≤ 1000 := Nat.le_trans (List.length_filter_le _ _) HLL.out
      have HPP := Lib.hid (pair_any w.heap.size (some ⟨mb, 0, none⟩) l.length l.length (keptJ L l l.length) p2 l.length cap2 l b cnt (leftV L l) wr HR.out.old.size (keptJ_len L l _).symm HR.out.own (keptJ_len L l _) (HS2.out.below HR.out.old) HFI.out Hll.out hmp hdif hfe (by have := HLL.out; omega) hrl)
      have HOL := Lib.hid HR.out.old
      have HLT : Hid (w.heap.size ≤ mb) := HR.out.hmb
      clear hcn hmp hdif hfe hrl HR
      go_wp2_with (first
        | (go_at_call 59; refine (HPP.out).mono ?_; rintro e w2 ⟨rfl, ho, hg⟩; have HO := Lib.hid ho; have HG := Lib.hid hg; clear ho hg HPP)
        | go_in)
      go_ret
      refine ⟨mb, rfl, ?_, ?_⟩
      · have := HO.out
        rw [keptJ_zip] at this
        exact this
      · exact HOL.out.trans ((Below.refl _ _).grown HG.out HOL.out.size (fun k hk => by cases hk; exact HLT.out))
end Go.Proofs.Ytcplhnpblpmalaa.Idn
