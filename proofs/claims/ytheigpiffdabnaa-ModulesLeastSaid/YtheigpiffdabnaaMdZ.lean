/-
  CONTRACT: modules.Step.
-/
import Derived.Test.YtheigpiffdabnaaMdN
import Derived.Test.YtheigpiffdabnaaMdV
namespace Go.Proofs.Ytheigpiffdabnaa.Mds
open Go Go.RowKit Go.Maps
set_option linter.unusedVariables false
set_option linter.unusedSimpArgs false
set_option maxRecDepth 1000000

/-! ### plain -/
open Classical in
noncomputable def takeB (own : List ByteArray) (bs : List Bd) (x : Bd) : List Bd := if x.1 ∈ own ∨ x ∈ bs then bs else bs ++ [x]
noncomputable def takesB (own : List ByteArray) (bs : List Bd) (l : List Bd) : List Bd := l.foldl (takeB own) bs
noncomputable def stepB (own : List ByteArray) (bs : List Bd) (LL : List (List Bd)) : List Bd := LL.foldl (takesB own) bs
theorem takesB_snoc (own : List ByteArray) (bs l : List Bd) (x : Bd) : takesB own bs (l ++ [x]) = takeB own (takesB own bs l) x := by
  unfold takesB; rw [List.foldl_append]; rfl
theorem stepB_snoc (own : List ByteArray) (bs l : List Bd) (LL : List (List Bd)) : stepB own bs (LL ++ [l]) = takesB own (stepB own bs LL) l := by
  unfold stepB; rw [List.foldl_append]; rfl
theorem takeB_mem (own : List ByteArray) (bs : List Bd) (x y : Bd) : y ∈ takeB own bs x ↔ y ∈ bs ∨ (y = x ∧ x.1 ∉ own) := by
  unfold takeB
  by_cases h : x.1 ∈ own ∨ x ∈ bs
  · rw [if_pos h]
    refine ⟨.inl, fun q => q.elim id fun ⟨e, hn⟩ => ?_⟩
    subst e
    exact h.resolve_left hn
  · rw [if_neg h, List.mem_append, List.mem_singleton]
    exact or_congr_right ⟨fun e => ⟨e, fun q => h (.inl q)⟩, fun q => q.1⟩
theorem takesB_mem (own : List ByteArray) (y : Bd) : ∀ (l bs : List Bd), y ∈ takesB own bs l ↔ y ∈ bs ∨ (y ∈ l ∧ y.1 ∉ own)
  | [], bs => by unfold takesB; simp
  | x :: l, bs => by
    have h := takesB_mem own y l (takeB own bs x)
    have e : takesB own bs (x :: l) = takesB own (takeB own bs x) l := rfl
    rw [e, h, takeB_mem, List.mem_cons]
    constructor
    · rintro ((q | ⟨rfl, q⟩) | ⟨q1, q2⟩)
      · exact .inl q
      · exact .inr ⟨.inl rfl, q⟩
      · exact .inr ⟨.inr q1, q2⟩
    · rintro (q | ⟨rfl | q, q2⟩)
      · exact .inl (.inl q)
      · exact .inl (.inr ⟨rfl, q2⟩)
      · exact .inr ⟨q, q2⟩
theorem stepB_mem (own : List ByteArray) (y : Bd) : ∀ (LL : List (List Bd)) (bs : List Bd), y ∈ stepB own bs LL ↔ y ∈ bs ∨ ((∃ l ∈ LL, y ∈ l) ∧ y.1 ∉ own)
  | [], bs => by unfold stepB; simp
  | l :: LL, bs => by
    have h := stepB_mem own y LL (takesB own bs l)
    have e : stepB own bs (l :: LL) = stepB own (takesB own bs l) LL := rfl
    rw [e, h, takesB_mem]
    constructor
    · rintro ((q | ⟨q, q2⟩) | ⟨⟨l', q, q1⟩, q2⟩)
      · exact .inl q
      · exact .inr ⟨⟨l, List.mem_cons_self, q⟩, q2⟩
      · exact .inr ⟨⟨l', List.mem_cons_of_mem _ q, q1⟩, q2⟩
    · rintro (q | ⟨⟨l', q, q1⟩, q2⟩)
      · exact .inl (.inl q)
      · rcases List.mem_cons.1 q with rfl | q
        · exact .inl (.inr ⟨q1, q2⟩)
        · exact .inr ⟨⟨l', q, q1⟩, q2⟩
theorem takeB_nodup {own : List ByteArray} {bs : List Bd} (x : Bd) (h : bs.Nodup) : (takeB own bs x).Nodup := by
  unfold takeB
  by_cases q : x.1 ∈ own ∨ x ∈ bs
  · rw [if_pos q]; exact h
  · rw [if_neg q]
    refine List.nodup_append.2 ⟨h, by simp, fun a ha b hb => ?_⟩
    rw [List.mem_singleton] at hb
    subst hb
    intro e
    subst e
    exact q (.inr ha)
theorem takesB_nodup {own : List ByteArray} : ∀ (l bs : List Bd), bs.Nodup → (takesB own bs l).Nodup
  | [], bs, h => h
  | x :: l, bs, h => takesB_nodup l _ (takeB_nodup x h)
theorem stepB_nodup {own : List ByteArray} : ∀ (LL : List (List Bd)) (bs : List Bd), bs.Nodup → (stepB own bs LL).Nodup
  | [], bs, h => h
  | x :: l, bs, h => stepB_nodup l _ (takesB_nodup x _ h)
theorem takeB_len (own : List ByteArray) (bs : List Bd) (x : Bd) : (takeB own bs x).length ≤ bs.length + 1 := by
  unfold takeB
  by_cases q : x.1 ∈ own ∨ x ∈ bs
  · rw [if_pos q]; omega
  · rw [if_neg q, List.length_append]; simp
theorem takesB_len (own : List ByteArray) : ∀ (l bs : List Bd), (takesB own bs l).length ≤ bs.length + l.length
  | [], bs => Nat.le_refl _
  | x :: l, bs => by
    have h := takesB_len own l (takeB own bs x)
    have h2 := takeB_len own bs x
    have e : takesB own bs (x :: l) = takesB own (takeB own bs x) l := rfl
    rw [e, List.length_cons]; omega
def sumB (LL : List (List Bd)) : Nat := (LL.map List.length).sum
theorem stepB_len (own : List ByteArray) : ∀ (LL : List (List Bd)) (bs : List Bd), (stepB own bs LL).length ≤ bs.length + sumB LL
  | [], bs => Nat.le_add_right _ _
  | x :: l, bs => by
    have h := stepB_len own l (takesB own bs x)
    have h2 := takesB_len own x bs
    have e : stepB own bs (x :: l) = stepB own (takesB own bs x) l := rfl
    have e2 : sumB (x :: l) = x.length + sumB l := by unfold sumB; simp
    rw [e, e2]; omega
theorem sumB_take (LL : List (List Bd)) (j : Nat) : sumB (LL.take j) ≤ sumB LL := by
  have h : sumB LL = sumB (LL.take j) + sumB (LL.drop j) := by
    unfold sumB
    rw [← List.sum_append, ← List.map_append, List.take_append_drop]
  omega
theorem sumB_mem {LL : List (List Bd)} {l : List Bd} (h : l ∈ LL) : l.length ≤ sumB LL := by
  induction LL with
  | nil => cases h
  | cons x LL ih =>
    have e2 : sumB (x :: LL) = x.length + sumB LL := by unfold sumB; simp
    rw [e2]
    rcases List.mem_cons.1 h with rfl | h
    · omega
    · have := ih h; omega

/-! ### the walk -/
structure Sp1 (w2 wr : World) (o b : Nat) (own : List ByteArray) (bs : List Bd) : Prop where
  tn : Tn (fun k => k = b) w2 wr
  gv : GvAt wr o b own bs
theorem Sp1.below {w2 wr wx : World} {o b : Nat} {own : List ByteArray} {bs : List Bd} (h : Sp1 w2 wr o b own bs) (hb : Below wr.heap.size wr wx) : Sp1 w2 wx o b own bs :=
  ⟨h.tn.new (hb.mono h.tn.size), h.gv.below hb h.gv.own.lt h.gv.bs.lt⟩
theorem Sp1.take {w2 wr wx : World} {o b : Nat} {own : List ByteArray} {bs : List Bd} {x : Bd} (h : Sp1 w2 wr o b own bs) (hne : o ≠ b) (hg : wr.grownBy wx (some b)) (hm : MapAt bdKeys tt wx b (bs ++ [x]).length (setF (bs ++ [x]))) : Sp1 w2 wx o b own (bs ++ [x]) :=
  ⟨h.tn.trans (Tn.of_grown hg rfl), ⟨h.gv.own.same (hg.block o h.gv.own.lt (fun e => by injection e with e; exact hne e)), hm⟩⟩

set_option maxHeartbeats 4000000 in
theorem step_any (m : ByteArray) (po : Option Addr) (no co : Nat) (L : List ByteArray) (p2 : Option Addr) (n2 c2 : Nat) (RL : List Sv) (LL : List (List Bd)) (w : World) (hm : m.size ≤ 1000) (hL : L.length ≤ 1000) (hs : SlIs encS w (.slice po no co) L) (hf : ∀ s ∈ L, s.size ≤ 1000)
    (h2 : SlIs encSv w (.slice p2 n2 c2) RL) (hRL : RL.length = LL.length) (hR : ∀ (i : Nat) (r : Sv) (l : List Bd), RL[i]? = some r → LL[i]? = some l → SlIs encBd w (svV r) l) (hfit : ∀ l ∈ LL, ∀ x ∈ l, x.1.size ≤ maxLen ∧ x.2.size ≤ maxLen) (hsum : sumB LL ≤ 100000) (hn2 : n2 ≤ 100000) :
    Calls Try.prog 25 #[.string m, .slice po no co, .slice p2 n2 c2] w fun e w' => ∃ v l, e = .returned v ∧ AscB l ∧ (∀ x, x ∈ l ↔ x ∈ bindsOf m L ∨ ((∃ l' ∈ LL, x ∈ l') ∧ x.1 ∉ visL L)) ∧ SlIs encBd w' v l ∧ Below w.heap.size w w' := by
  have HBG := Lib.hid (begin_any m po no co L w hL hs hm hf)
  have hb0 : (dedup (bindsOf m L)).length ≤ 1000 := by have h1 := dedup_len (bindsOf m L); have h3 := visL_len L; rw [bindsOf_len] at h1; omega
  have HB0 := Lib.hid hb0
  have HND := Lib.hid (dedup_nodup (bindsOf m L))
  have HFB : Hid (∀ x ∈ dedup (bindsOf m L), x.1.size ≤ maxLen ∧ x.2.size ≤ maxLen) := fun x hx => by
    have h1 := (dedup_mem (bindsOf m L) x).1 hx
    unfold bindsOf at h1
    obtain ⟨s, hs1, rfl⟩ := List.mem_map.1 h1
    have hs2 := hf s (List.mem_filter.1 (show s ∈ L.filter _ from hs1)).1
    refine ⟨by unfold maxLen; show s.size ≤ _; omega, ?_⟩
    unfold defB colons maxLen
    rw [ByteArray.size_append, ByteArray.size_append]
    show m.size + 2 + s.size ≤ _
    omega
  have H2 := Lib.hid h2
  have HRL := Lib.hid hRL
  have HR := Lib.hid hR
  have HFIT := Lib.hid hfit
  have HSUM := Lib.hid hsum
  have HN2 : Hid (n2 = LL.length) := (h2.lies).1.trans hRL
  have hni : (n2 : Int) ≤ 100000 := by omega
  clear hb0 hL hs hf h2 hRL hR hfit hsum hm hn2
  go_enter Try.func25, Try.ntmps25
  go_wp2_with (first
    | (go_at_call 45; refine HBG.out.mono ?_; rintro e w1 ⟨o, b, rfl, ho, hb, hne, hbl, hg, hb1⟩
       have HG := Lib.hid hg
       have HB1 := Lib.hid hb1
       have HOB : Hid (w.heap.size ≤ o ∧ w.heap.size ≤ b ∧ o ≠ b ∧ b < w1.heap.size) := ⟨ho, hb, hne, hbl⟩
       clear hg hb1 ho hb hne hbl HBG)
    | fail)
  have HX1 := Lib.hid (heap_alloc_new w1 (.cells #[.map (some o), .map (some b)] gvT))
  have HBX := Lib.hid (below_box w1 (.cells #[.map (some o), .map (some b)] gvT))
  have HZ : Hid ((w1.alloc (.cells #[.map (some o), .map (some b)] gvT)).heap.size = w1.heap.size + 1) := World.size_alloc _ _
  have H0 : Hid (Sp1 (w1.alloc (.cells #[.map (some o), .map (some b)] gvT)) (w1.alloc (.cells #[.map (some o), .map (some b)] gvT)) o b (dedup (visL L)) (dedup (bindsOf m L))) := ⟨Tn.of_below (Below.refl _ _), HG.out.below HBX.out HG.out.own.lt HG.out.bs.lt⟩
  have HS2 := Lib.hid ((H2.out.below HB1.out).below HBX.out)
  have HR2 : Hid (∀ (i : Nat) (r : Sv) (l : List Bd), RL[i]? = some r → LL[i]? = some l → SlIs encBd (w1.alloc (.cells #[.map (some o), .map (some b)] gvT)) (svV r) l) := fun i r l h1 h2 => ((HR.out i r l h1 h2).below HB1.out).below HBX.out
  have HMB : Hid (IsMapB (w1.alloc (.cells #[.map (some o), .map (some b)] gvT)) b) := MapAt.isMap H0.out.gv.bs
  have HB2 : Hid (Below w.heap.size w (w1.alloc (.cells #[.map (some o), .map (some b)] gvT))) := bnext HB1.out HBX.out
  have HXB : Hid (w1.heap.size ≠ b) := by have := HOB.out.2.2.2; unfold Hid; omega
  clear HBX HG HR H2 HB1
  generalize hX : w1.heap.size = X at *
  clear hX
  generalize w1.alloc (.cells #[.map (some o), .map (some b)] gvT) = w2 at *
  go_loopw [17] (fun i wr => ∃ j : Nat, j ≤ n2 ∧ i = .int .i64 j ∧ Hid (Sp1 w2 wr o b (dedup (visL L)) (stepB (dedup (visL L)) (dedup (bindsOf m L)) (LL.take j)))) (fun i _ => n2 - (intOf i).toNat)
  case atStart => exact ⟨0, Nat.zero_le _, rfl, H0⟩
  case round =>
    clear H0
    obtain ⟨j, hj, rfl, HI⟩ := hrel
    obtain ⟨wA, rfl⟩ : ∃ x, x = wr := ⟨wr, rfl⟩
    have hxA : wA.heap[X]? = some (.cells #[.map (some o), .map (some b)] gvT (0, 0)) := by rw [HI.out.tn.block X (heap_lt HX1.out) (fun e => HXB.out e)]; exact HX1.out
    by_cases hlt : j < n2
    · have hjl : j < LL.length := by have := HN2.out; omega
      have hjr : j < RL.length := by have := HRL.out; omega
      have HTK : Hid (LL.take (j + 1) = LL.take j ++ [LL.getD j []]) := take_snoc LL [] j hjl
      have hlm : LL.getD j [] ∈ LL := by simp [List.getD, List.getElem?_eq_getElem hjl]
      have HLM := Lib.hid hlm
      have hsA := sl_turned HS2.out HI.out.tn (fun k e => by subst e; exact HMB.out)
      have hlA := sl_turned (HR2.out j RL[j] (LL.getD j []) (List.getElem?_eq_getElem hjr) (by simp [List.getD, List.getElem?_eq_getElem hjl])) HI.out.tn (fun k e => by subst e; exact HMB.out)
      obtain ⟨-, -, -, hl2⟩ := hsA.lies
      obtain ⟨b2, o2, rfl, hc2⟩ := hl2 (by omega)
      have c0 := hc2.elem j hjr 0 (by decide) _ rfl
      have e1 : encSv.size = 1 := rfl
      rw [e1, Nat.mul_one, Nat.add_zero] at c0
      have HLW := Lib.hid (HR2.out j RL[j] (LL.getD j []) (List.getElem?_eq_getElem hjr) (by simp [List.getD, List.getElem?_eq_getElem hjl]))
      clear hlA hc2 hsA hl2
      generalize RL[j] = r at *
      generalize LL.getD j [] = l at *
      obtain ⟨pr, nr, cr⟩ := r
      have hnr := (HLW.out.lies).1
      have hnl : nr ≤ 100000 := by have h1 := sumB_mem hlm; have h2 := HSUM.out; have h3 : nr = l.length := hnr; omega
      have hnri : (nr : Int) ≤ 100000 := by omega
      have HNR : Hid (nr = l.length) := hnr
      have HTK2 : Hid (stepB (dedup (visL L)) (dedup (bindsOf m L)) (LL.take (j + 1)) = takesB (dedup (visL L)) (stepB (dedup (visL L)) (dedup (bindsOf m L)) (LL.take j)) l) := by rw [Hid, HTK.out, stepB_snoc]
      have HLEN : Hid ((stepB (dedup (visL L)) (dedup (bindsOf m L)) (LL.take j)).length ≤ 101000) := by
        have h1 := stepB_len (dedup (visL L)) (LL.take j) (dedup (bindsOf m L)); have h2 := sumB_take LL j; have h3 := HB0.out; have h4 := HSUM.out; unfold Hid; omega
      have HFL : Hid (∀ x ∈ l, x.1.size ≤ maxLen ∧ x.2.size ≤ maxLen) := HFIT.out l hlm
      clear hlm hjl hjr hnr HTK
      have c0' : wA.cell? ⟨b2, o2 + j, none⟩ = some (.slice pr nr cr) := c0
      clear c0 hxA
      generalize hB0 : stepB (dedup (visL L)) (dedup (bindsOf m L)) (LL.take j) = B0 at *
      clear hB0
      go_wp2_with fail
      clear c0'
      go_loopw [23] (fun i wr => ∃ i2 : Nat, i2 ≤ nr ∧ i = .int .i64 i2 ∧ Hid (Sp1 w2 wr o b (dedup (visL L)) (takesB (dedup (visL L)) B0 (l.take i2)))) (fun i _ => nr - (intOf i).toNat)
      case atStart => exact ⟨0, Nat.zero_le _, rfl, HI⟩
      case round =>
        clear HI
        obtain ⟨i2, hi2, rfl, HI⟩ := hrel
        obtain ⟨wB, rfl⟩ : ∃ x, x = wr := ⟨wr, rfl⟩
        by_cases hlt2 : i2 < nr
        · have hil : i2 < l.length := by rw [← HNR.out]; exact hlt2
          have hls := sl_turned HLW.out HI.out.tn (fun k e => by subst e; exact HMB.out)
          obtain ⟨-, -, -, hl3⟩ := hls.lies
          obtain ⟨b3, o3, e3, hc3⟩ := hl3 (show 0 < nr by omega)
          have e4 : pr = some ⟨b3, o3, none⟩ := e3
          subst e4
          clear e3
          obtain ⟨q0, q1⟩ := bdAt hc3 i2 hil
          have HT3 : Hid (takesB (dedup (visL L)) B0 (l.take (i2 + 1)) = takeB (dedup (visL L)) (takesB (dedup (visL L)) B0 (l.take i2)) (l.getD i2 bd0)) := by rw [Hid, take_snoc l bd0 i2 hil, takesB_snoc]
          have HFX := Lib.hid (HFL.out (l.getD i2 bd0) (by simp [List.getD, List.getElem?_eq_getElem hil]))
          have HL3 : Hid ((takesB (dedup (visL L)) B0 (l.take i2)).length < maxLen) := by
            have h1 := takesB_len (dedup (visL L)) (l.take i2) B0; have h2 := HLEN.out; rw [List.length_take] at h1; unfold Hid maxLen; omega
          generalize l.getD i2 bd0 = x at *
          obtain ⟨x1, x2⟩ := x
          generalize takesB (dedup (visL L)) B0 (l.take i2) = Bi at *
          have HC := Lib.hid (cellsAt_alloc wB [.string x1, .string x2] bdT)
          have HBN := Lib.hid (below_box wB (.cells #[.string x1, .string x2] bdT))
          have HI3 := Lib.hid (HI.out.below HBN.out)
          have hxB : (wB.alloc (.cells #[.string x1, .string x2] bdT)).heap[X]? = some (.cells #[.map (some o), .map (some b)] gvT (0, 0)) := by rw [HI3.out.tn.block X (heap_lt HX1.out) (fun e => HXB.out e)]; exact HX1.out
          obtain ⟨y0, y1⟩ := bd2 HC.out
          have g0 : (wB.alloc (.cells #[.string x1, .string x2] bdT)).cell? ⟨X, 0, none⟩ = some (.map (some o)) := by rw [Lib.cell_of_heap hxB]; rfl
          have g1 : (wB.alloc (.cells #[.string x1, .string x2] bdT)).cell? ⟨X, 1, none⟩ = some (.map (some b)) := by rw [Lib.cell_of_heap hxB]; rfl
          clear hls hl3 hc3 hil hxB HC
          by_cases hx : x1 ∈ dedup (visL L) ∨ (x1, x2) ∈ Bi
          · have HTN := Lib.hid (take_no o b (dedup (visL L)) Bi (x1, x2) _ HFX.out HI3.out.gv hx)
            have HT4 : Hid (takesB (dedup (visL L)) B0 (l.take (i2 + 1)) = Bi) := by rw [Hid, HT3.out]; unfold takeB; rw [if_pos hx]
            clear hx HT3
            go_wp2_with (first
              | (go_at_call 49; refine HTN.out.mono ?_; rintro e w4 ⟨rfl, hb4⟩; have HI4 := Lib.hid (HI3.out.below hb4); clear hb4 HTN y0 y1 g0 g1 q0 q1)
              | fail)
            go_roundw
            case rel => exact ⟨i2 + 1, by omega, by go_num, by rw [HT4.out]; exact HI4⟩
            case measure => simp [intOf]; omega
          · have HTY := Lib.hid (take_yes o b (dedup (visL L)) Bi (x1, x2) _ HFX.out HL3.out HOB.out.2.2.1 HI3.out.gv (fun q => hx (.inl q)) (fun q => hx (.inr q)))
            have HT4 : Hid (takesB (dedup (visL L)) B0 (l.take (i2 + 1)) = Bi ++ [(x1, x2)]) := by rw [Hid, HT3.out]; unfold takeB; rw [if_neg hx]
            clear hx HT3
            go_wp2_with (first
              | (go_at_call 49; refine HTY.out.mono ?_; rintro e w4 ⟨rfl, hg4, hm4⟩; have HI4 := Lib.hid (HI3.out.take HOB.out.2.2.1 hg4 hm4); clear hg4 hm4 HTY y0 y1 g0 g1 q0 q1)
              | fail)
            go_roundw
            case rel => exact ⟨i2 + 1, by omega, by go_num, by rw [HT4.out]; exact HI4⟩
            case measure => simp [intOf]; omega
        · have hie : i2 = nr := by omega
          have HTL : Hid (l.take i2 = l) := by rw [Hid, hie, HNR.out]; exact List.take_length
          clear hie
          go_wp2_with fail
          go_roundw
          case rel => exact ⟨j + 1, by omega, by go_num, by rw [HTK2.out]; rw [HTL.out] at HI; exact HI⟩
          case measure => simp [intOf]; omega
    · have hje : j = n2 := by omega
      have hlen : LL.take j = LL := by rw [hje, HN2.out]; exact List.take_length
      rw [hlen] at HI
      have HLS := Lib.hid (list_any o b (dedup (visL L)) (stepB (dedup (visL L)) (dedup (bindsOf m L)) LL) (stepB_nodup LL _ HND.out) (fun x hx => by
        rcases (stepB_mem (dedup (visL L)) x LL (dedup (bindsOf m L))).1 hx with q | ⟨⟨l', q1, q2⟩, q3⟩
        · exact HFB.out x q
        · exact HFIT.out l' q1 x q2) (by have h1 := stepB_len (dedup (visL L)) LL (dedup (bindsOf m L)); have h3 := HB0.out; have h4 := HSUM.out; omega) wA HI.out.gv)
      have g0 : wA.cell? ⟨X, 0, none⟩ = some (.map (some o)) := by rw [Lib.cell_of_heap hxA]; rfl
      have g1 : wA.cell? ⟨X, 1, none⟩ = some (.map (some b)) := by rw [Lib.cell_of_heap hxA]; rfl
      clear hlen hje hxA
      go_wp2_with (first
        | (go_at_call 48; refine HLS.out.mono ?_; rintro e w8 ⟨v, l, rfl, h1, h2, h3, h4⟩
           have HBF : Hid (Below w.heap.size w w8) := bnext (HB2.out.trans (HI.out.tn.below HB2.out.size (fun k e => by subst e; exact HOB.out.2.1))) h4
           have HRS : Hid (AscB l ∧ (∀ x, x ∈ l ↔ x ∈ stepB (dedup (visL L)) (dedup (bindsOf m L)) LL) ∧ SlIs encBd w8 v l) := ⟨h1, h2, h3⟩
           clear h1 h2 h3 h4 HLS g0 g1)
        | fail)
      go_ret
      refine ⟨_, l, rfl, HRS.out.1, fun x => ?_, HRS.out.2.2, HBF.out⟩
      rw [HRS.out.2.1 x, stepB_mem, dedup_mem, dedup_mem]
end Go.Proofs.Ytheigpiffdabnaa.Mds
