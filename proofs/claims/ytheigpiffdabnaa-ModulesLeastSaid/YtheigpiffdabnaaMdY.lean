/-
  WALK: ModulesGrow.
-/
import Derived.Test.YtheigpiffdabnaaMdX
namespace Go.Proofs.Ytheigpiffdabnaa.Mds
open Go Go.RowKit Go.Maps
set_option linter.unusedVariables false
set_option linter.unusedSimpArgs false
set_option maxRecDepth 1000000

theorem sv_at {w : World} {ob n i : Nat} {R : Nat → Sv} (h : SlIs encSv w (.slice (some ⟨ob, 0, none⟩) n n) ((List.range n).map R)) (hi : i < n) : w.cell? ⟨ob, i, none⟩ = some (svV (R i)) := by
  obtain ⟨-, -, -, hl⟩ := h.lies
  obtain ⟨b, off, e, hc⟩ := hl (by omega)
  injection e with e
  injection e with e1 e2 _
  subst e1
  subst e2
  have hlen : i < ((List.range n).map R).length := by simp [hi]
  have h1 := encSv.all_at ((List.range n).map R) i hlen 0 (by decide)
  have e3 : encSv.size = 1 := rfl
  rw [e3, Nat.mul_one, Nat.add_zero] at h1
  have h2 := hc i (svV (R i)) (by rw [h1]; simp [encSv])
  simpa using h2
def SvRow (w : World) (ob i : Nat) (v : Value) : Prop := w.cell? ⟨ob, i, none⟩ = some v
theorem SvRow.below {w w' : World} {ob i : Nat} {v : Value} (h : SvRow w ob i v) (hb : Below w.heap.size w w') : SvRow w' ob i v := by
  unfold SvRow at h ⊢
  rw [hb.cell (p := ⟨ob, i, none⟩) (World.block_lt_of_cell? w _ h)]
  exact h
/-- one list of a module, open -/
theorem sv_open {w : World} {s : Sv} {L : List Bd} (h : SlIs encBd w (svV s) L) : ∃ q c, s = (q, L.length, c) ∧ L.length ≤ c ∧ c ≤ maxLen ∧ SlIs encBd w (.slice q L.length c) L ∧ (0 < L.length → ∃ b off, q = some ⟨b, off, none⟩) := by
  obtain ⟨h1, h2, h3, h4⟩ := h.lies
  obtain ⟨q, m, c⟩ := s
  have e : m = L.length := h1
  subst e
  exact ⟨q, c, rfl, h2, h3, h, fun h0 => by obtain ⟨b, off, e, _⟩ := h4 (by simpa using h0); exact ⟨b, off, e⟩⟩

set_option maxHeartbeats 8000000 in
theorem grow6 (p : Option Addr) (n cap : Nat) (w : World) (hn : n ≤ maxLen) (hr : Rolls w p n) (hb : ∀ b o, p = some ⟨b, o, none⟩ → b < w.heap.size) :
    Calls Try.prog 7 #[.slice p n cap] w fun e w' => e = .returned (.bool true) ∧ Below w.heap.size w w' := by
  by_cases h1 : 400 < n
  · clear hr hb
    go_enter Try.func7, Try.ntmps7
    go_wp2_with fail
    refine (light_no p n cap _ h1 hn).mono ?_
    rintro e w1 ⟨rfl, rfl⟩
    go_wp2_with fail
    refine (awake06_any _).mono ?_
    rintro e w1 ⟨rfl, hb⟩
    have HB := Lib.hid hb
    clear hb
    go_wp2_with fail
    go_ret
    exact ⟨rfl, HB.out⟩
  · have HDW := Lib.hid (rolled (cap := cap) (show n ≤ 400 by omega) hr hb)
    clear hr hb
    obtain ⟨i0, hi0, hz0, hz1, hz2⟩ := info_parts infoFc
    go_enter Try.func7, Try.ntmps7
    go_wp2_with fail
    refine (light_yes p n cap _ (by omega)).mono ?_
    rintro e w2 ⟨rfl, rfl⟩
    go_wp2_with fail
    refine (roll_any p n cap _).mono ?_
    rintro e w3 ⟨rfl, rfl⟩
    go_wp2_with fail
    generalize hd : (⟨w2.heap.size, p, n, cap⟩ : Dice) = d at *
    have hdD : w2.heap.size = d.D := by rw [← hd]
    rw [hdD]
    have HB3 : Hid (Below w2.heap.size w2 (w2.alloc (.cells #[.slice p n cap, .int .i64 0] 67))) := below_box w2 _
    have HD2 := Lib.hid hdD
    clear hdD
    generalize w2.alloc (.cells #[.slice p n cap, .int .i64 0] 67) = w3 at *
    have HD3 : Hid (w2.heap.size ≤ d.D) := Nat.le_of_eq HD2.out
    have HD4 : Hid (d.D < w3.heap.size) := World.block_lt_of_cell? w3 _ HDW.out.1.at_
    have HG3 := Lib.hid HDW.out.1
    clear HDW hd HD2
    refine (faces_any d w3 HG3.out).mono ?_
    rintro e w4 ⟨v, R, l, rfl, ho, hrw, hm, hl4, ht4⟩
    have HB4 : Hid (Below w2.heap.size w2 w4) := base_thrown6 HB3.out ht4 HD3.out
    have HW34 : Hid (w3.heap.size ≤ w4.heap.size) := ht4.but.size
    have HT4 := Lib.hid ht4
    have HR4 := Lib.hid hrw
    have HM := Lib.hid hm
    have hRl := hrw.len
    rcases ho.2 with ⟨rfl, hnil⟩ | ⟨g4, c4, cur4, rfl, hgb, hgh, hg1, hg2, hg3, hg4⟩
    · have hl0 : R.length = 0 := hnil
      clear ho ht4 hrw hm
      go_wp2_with fail
      refine (awake06_any _).mono ?_
      rintro e w5 ⟨rfl, hb5⟩
      have HBZ := Lib.hid (HB4.out.trans (hb5.mono HB4.out.size))
      clear hb5
      go_wp2_with fail
      go_ret
      exact ⟨rfl, HBZ.out⟩
    · have HO4 := Lib.hid ho
      have hnb : R.length ≤ 4 := by omega
      generalize hN : R.length = N at *
      have HN := Lib.hid hN
      have HLN : Hid (N = l.length) := by unfold Hid; omega
      have HFT : Hid (FcsFit l) := fit_made hm hl4
      have HG4 : Hid (w3.heap.size ≤ g4 ∧ g4 < w4.heap.size) := ⟨hgb, heap_lt hgh⟩
      have HOW : Hid (w4.ownsRow w3.heap.size fcT 3 (.slice (some ⟨g4, 0, none⟩) N c4) N (encFc.all R)) := by have h := ho; unfold OwnL at h; rw [hN] at h; exact h
      have HCS : Hid (CellsAt w4 g4 0 (encFc.all R)) := fun j u hj => by
        have hlen : (encFc.all R).length = N * 3 := by rw [encFc.all_length, hN]; rfl
        have hjl : j < N * 3 := by have := (List.getElem?_eq_some_iff.1 hj).1; omega
        rw [Nat.zero_add, World.ownsRow.cellAt HOW.out j hjl]
        exact hj
      clear ho ht4 hrw hm hgb hgh hg1 hg2 hg3 hg4 hN hRl hl4
      by_cases h0 : N = 0
      · subst h0
        go_wp2_with fail
        refine (awake06_any _).mono ?_
        rintro e w5 ⟨rfl, hb5⟩
        have HBZ := Lib.hid (HB4.out.trans (hb5.mono HB4.out.size))
        clear hb5
        go_wp2_with fail
        go_ret
        exact ⟨rfl, HBZ.out⟩
      · have hne : ((N : Int) == 0) = false := by rw [beq_eq_false_iff_ne]; omega
        go_wp2_with (first
          | (at_builtin; refine wpList_append_own_at _ rfl (.const (.slice none 0 0)) (.tmp 25) 46 rfl w4.heap.size fcT i0 (.agg #[.string ⟨#[]⟩, .slice none 0 0, .slice none 0 0]) 3 64 Try.underlying46 hi0 hz0 hz1 hz2 rfl (by decide) (.slice none 0 0) 0 [] rfl (World.ownsRow_nil _ _ _ _) ⟨g4, 0, none⟩ N c4 (encFc.all R) rfl (by rw [encFc.all_length, HN.out]; rfl) (fun j u hj => by rw [add_lit]; exact HCS.out j u hj) (fun u hu => encFc.all_one R u hu) (by unfold maxLen; omega) (by omega) (Nat.le_refl _) ?_
             intro v5 w5 ho5 hgr5 _ _
             rw [Nat.zero_add, List.nil_append] at ho5
             have HB5 : Hid (Below w4.heap.size w4 w5) := (Below.refl _ _).grown hgr5 (Nat.le_refl _) (fun k hk => by cases hk)
             obtain ⟨g5, c5, rfl⟩ : ∃ g5 c5, v5 = .slice (some ⟨g5, 0, none⟩) N c5 := (by
               rcases ho5.2 with ⟨_, hz⟩ | ⟨g5, c5, cur5, hz, _⟩
               · exact absurd hz h0
               · exact ⟨g5, c5, hz⟩)
             have HO5 : Hid (OwnL encFc fcT w5 w4.heap.size (.slice (some ⟨g5, 0, none⟩) N c5) R) := (by unfold Hid OwnL; rw [HN.out]; exact ho5)
             have HL4 : Hid (DcLow d w4.heap.size) := (dcLow HG3.out).mono HW34.out
             have HD5 : Hid (DiceAt d w5) := (Dr.of_below HB5.out HL4.out).good HT4.out.good
             clear hgr5 ho5)
          | (go_at_call 12; refine (next_any d N _ HD5.out (by omega) (by omega)).mono ?_; rintro e w6 ⟨k, hk, rfl, ht6, -⟩
             have HT6 := Lib.hid ht6
             have HL5 : Hid (DcLow d w5.heap.size) := HL4.out.mono HB5.out.size
             have HDR6 : Hid (Dr d w5.heap.size w5 w6) := Dr.of_thrown ht6 HL5.out.1
             have HO6 : Hid (OwnL encFc fcT w6 w4.heap.size (.slice (some ⟨g5, 0, none⟩) N c5) R) := own_dr HO5.out HDR6.out HL4.out.1 (Nat.le_refl _)
             have HR6 : Hid (FcRow w6 w3.heap.size R l) := (HR4.out.below HB5.out).dr HDR6.out HD4.out (Nat.le_refl _)
             have hkl : k < l.length := (by have := HLN.out; omega)
             have hkR : k < R.length := (by have := HN.out; omega)
             obtain ⟨hr1, hr2, hr3⟩ := HR6.out.at_ k l[k] R[k] (List.getElem?_eq_getElem hkl) (List.getElem?_eq_getElem hkR)
             have hcl : w6.cell? ⟨g5, k * 3 + 2, none⟩ = some (svV R[k].2.2) := (by
               have h := HO6.out
               unfold OwnL at h
               rw [HN.out] at h
               rw [World.ownsRow.cellAt h (k * 3 + 2) (by show k * 3 + 2 < N * 3; omega)]
               exact (encFc.all_at R k hkR 2 (by decide)).trans rfl)
             obtain ⟨⟨q, m, c⟩, hsp⟩ : ∃ s, R[k].2.2 = s := ⟨_, rfl⟩
             rw [hsp] at hr3 hcl
             have hge : l[k] = l.getD k fc0 := (by simp [List.getD, List.getElem?_eq_getElem hkl])
             rw [hge] at hr3
             have HSP : Hid (OwnL encS strT w6 w3.heap.size (.slice q m c) (l.getD k fc0).pub) := hr3
             have HPL : Hid ((l.getD k fc0).pub.length ≤ 3) := (HM.out _ (by rw [← hge]; exact List.getElem_mem hkl)).pubs
             have HKL := Lib.hid hkl
             have hcl' : w6.cell? ⟨g5, k * 3 + 2, none⟩ = some (.slice q m c) := hcl
             clear ht6 hkl hkR hr1 hr2 hr3 hsp hge hcl)
          | (at_builtin; refine wpList_appendSl rfl (.const (.slice none 0 0)) (.tmp 37) rfl w6.heap.size w3.heap.size (.slice none 0 0) (.slice q m c) [] (l.getD k fc0).pub rfl (OwnL.isNil _ _ _ _) rfl HSP.out (by have := HPL.out; simp only [List.length_nil]; omega) (Nat.le_refl _) ?_
             intro v7 w7 ho7 hgr7
             rw [List.nil_append] at ho7
             have HB7 : Hid (Below w6.heap.size w6 w7) := (Below.refl _ _).grown hgr7 (Nat.le_refl _) (fun k hk => by cases hk)
             obtain ⟨q7, m7, c7, rfl⟩ : ∃ q m c, v7 = .slice q m c := (by obtain ⟨⟨q7, m7, c7⟩, e⟩ := own_svS ho7; exact ⟨q7, m7, c7, e⟩)
             have HO7 : Hid (OwnL encS strT w7 w6.heap.size (.slice q7 m7 c7) (l.getD k fc0).pub) := ho7
             have HL6 : Hid (DcLow d w6.heap.size) := HL5.out.mono HT6.out.but.size
             have HDR7 : Hid (Dr d w5.heap.size w5 w7) := HDR6.out.trans ((Dr.of_below HB7.out HL6.out).mono HT6.out.but.size)
             have HTA := Lib.hid (thrown_allocD (HDR7.out.good HD5.out) (.cells #[.string ⟨#[97]⟩, .string ⟨#[98]⟩, .string ⟨#[99]⟩, .string ⟨#[100]⟩] strT))
             have HOF := Lib.hid (of_any d 12 4 4 w7.heap.size 0 (w7.alloc (.cells #[.string ⟨#[97]⟩, .string ⟨#[98]⟩, .string ⟨#[99]⟩, .string ⟨#[100]⟩] strT)) HTA.out.good (by omega) (by omega) (shorts_lit 12 w7 namesM (by decide) strT) (by have h1 := HL6.out.1; have h2 := HB7.out.size; omega))
             clear ho7 hgr7)
          | (go_at_call 15; refine HOF.out.mono ?_; rintro e w8 ⟨s, hs, rfl, ht8⟩
             have hD7 : d.D < w7.heap.size := (by have h1 := HL6.out.1; have h2 := HB7.out.size; omega)
             have HDR8 : Hid (Dr d w5.heap.size w5 (w8.alloc (.cells #[.string s] strT))) := (by
               have h1 : Dr d w5.heap.size w7 w8 := (Dr.of_thrown (HTA.out.trans ht8) hD7).mono HDR7.out.size
               have h2 : Dr d w5.heap.size w8 (w8.alloc (.cells #[.string s] strT)) := Dr.of_below ((below_box w8 _).mono (Nat.le_trans HDR7.out.size h1.size)) HL5.out
               exact HDR7.out.trans (h1.trans h2))
             have HW78 : Hid (w7.heap.size ≤ w8.heap.size) := (HTA.out.trans ht8).but.size
             have HO8 : Hid (OwnL encS strT (w8.alloc (.cells #[.string s] strT)) w6.heap.size (.slice q7 m7 c7) (l.getD k fc0).pub) := OwnL.alloc (own_dr HO7.out (Dr.of_thrown (HTA.out.trans ht8) hD7) HL6.out.1 (Nat.le_refl _)) _
             have HS8 : Hid (OwnL encS strT (w8.alloc (.cells #[.string s] strT)) w6.heap.size (.slice (some ⟨w8.heap.size, 0, none⟩) 1 1) [s]) := ⟨rfl, .inr ⟨w8.heap.size, 1, #[.string s], rfl, (by have h1 := HB7.out.size; have h2 := HW78.out; omega), heap_alloc_new w8 _, Nat.le_refl 1, by decide, rfl, rfl⟩⟩
             have HSS := Lib.hid hs
             clear ht8 hs HOF HTA)
          | (at_builtin; refine wpList_appendSl rfl (.tmp 38) (.tmp 42) rfl w6.heap.size w6.heap.size (.slice q7 m7 c7) (.slice (some ⟨w8.heap.size, 0, none⟩) 1 1) (l.getD k fc0).pub [s] rfl HO8.out rfl HS8.out (by have := HPL.out; simp only [List.length_singleton]; omega) (by have h1 := HB7.out.size; have h2 := HW78.out; rw [World.size_alloc]; omega) ?_
             intro v9 w9 ho9 hgr9
             have HDR9 : Hid (Dr d w5.heap.size w5 w9) := (by
               have h1 : Below w6.heap.size (w8.alloc (.cells #[.string s] strT)) w9 := OwnL.grown_below HO8.out hgr9 (by have h1 := HB7.out.size; have h2 := HW78.out; rw [World.size_alloc]; omega)
               exact HDR8.out.trans ((Dr.of_below h1 HL6.out).mono HT6.out.but.size))
             obtain ⟨q9, m9, c9, rfl⟩ : ∃ q m c, v9 = .slice q m c := (by obtain ⟨⟨q9, m9, c9⟩, e⟩ := own_svS ho9; exact ⟨q9, m9, c9, e⟩)
             have HO9 : Hid (OwnL encS strT w9 w6.heap.size (.slice q9 m9 c9) ((l.getD k fc0).pub ++ [s])) := ho9
             have HF9 : Hid (OwnL encFc fcT w9 w4.heap.size (.slice (some ⟨g5, 0, none⟩) N c5) R) := own_dr HO5.out HDR9.out HL4.out.1 (Nat.le_refl _)
             have f9 : ∀ i, w9.frozen? ⟨g5, i, none⟩ = false := fun i => World.ownsRow.frozenAt (by have h := HF9.out; unfold OwnL at h; rw [HN.out] at h; exact h) i
             have c9' : ∃ u, w9.cell? ⟨g5, k * 3 + 2, none⟩ = some u := (by
               have h := HF9.out
               unfold OwnL at h
               rw [HN.out] at h
               have h2 := World.ownsRow.cellAt h (k * 3 + 2) (by show k * 3 + 2 < N * 3; omega)
               have hlen : (encFc.all R).length = N * 3 := (by rw [encFc.all_length, HN.out]; rfl)
               rw [List.getElem?_eq_getElem (by omega)] at h2
               exact ⟨_, h2⟩)
             obtain ⟨u9, e9⟩ := c9'
             clear ho9 hgr9 hcl' HO7 HO8 HS8 HDR6 HDR7 HDR8 HO6 HSP)
          | fail)
        have hl4 : l.length ≤ 4 := by have := HLN.out; omega
        have HB5w : Hid (Below w2.heap.size w2 w5) := HB4.out.trans (HB5.out.mono HB4.out.size)
        have hg5 := (World.ownsRow.lt (by have h := HF9.out; unfold OwnL at h; exact h) g5 rfl).1
        have HBW : Hid (Below w2.heap.size w2 (w9.setCell ⟨g5, k * 3 + 2, none⟩ (.slice q9 m9 c9))) := (base_thrown6 HB5w.out (HDR9.out.thrown HD5.out) HD3.out).setCell (p := ⟨g5, k * 3 + 2, none⟩) (by have h1 := HB4.out.size; show w2.heap.size ≤ g5; omega) _
        have hO9 : OwnL encFc fcT w9 w3.heap.size (.slice (some ⟨g4, 0, none⟩) N c4) R := own_dr (OwnL.below HO4.out HB5.out) HDR9.out HD4.out (Nat.le_refl _)
        have hR9 : FcRow w9 w3.heap.size R l := (HR4.out.below HB5.out).dr HDR9.out HD4.out (Nat.le_refl _)
        have hF9 : OwnL encFc fcT w9 w3.heap.size (.slice (some ⟨g5, 0, none⟩) N c5) R := own_base HF9.out HW34.out
        have hS9 : OwnL encS strT w9 w3.heap.size (svV (q9, m9, c9)) ((l.getD k fc0).pub ++ [s]) := own_base HO9.out (by have h1 := HW34.out; have h2 := HB5.out.size; have h3 := HT6.out.but.size; omega)
        have HFA : Hid (FacesAt (w9.setCell ⟨g5, k * 3 + 2, none⟩ (.slice q9 m9 c9)) (.slice (some ⟨g4, 0, none⟩) N c4) l) := faces_aside (x := .slice q9 m9 c9) hO9 hR9 hF9 (fun e => by injection e with e; have h1 := HG4.out.2; simp only at e; omega)
        have hfb := faces_set (w := w9) (k := k) (sp := (q9, m9, c9)) (s := s) HN.out.symm hF9 hR9 HKL.out hS9
        rw [svEta] at hfb
        have HFB := Lib.hid hfb
        clear hfb
        have HFM : Hid (FcsFit (moreF l k s)) := fit_more HM.out hl4 HKL.out HSS.out
        clear hg5 hO9 hR9 hF9 hS9 HF9 HO9 HDR9 HR4 HO4 HOW HCS HT4 HT6 HB5 HB5w HO5 HD5 HR6 HG4 HL4 HL5 HL6 f9 e9 HB7 HW78 HSS HPL
        generalize w9.setCell ⟨g5, k * 3 + 2, none⟩ (.slice q9 m9 c9) = w10 at *
        go_wp2_with fail
        refine (all_any _ _ _ l w10 HFA.out HFT.out).mono ?_
        rintro e w11 ⟨ob, RA, LA, rfl, hsA, hlA, hbA⟩
        have HSA := Lib.hid hsA
        have HLA := Lib.hid hlA
        have HB11 := Lib.hid hbA
        clear hsA hlA hbA
        go_wp2_with fail
        refine (all_any _ _ _ (moreF l k s) w11 (HFB.out.below HB11.out) HFM.out).mono ?_
        rintro e w12 ⟨ob2, RB, LB, rfl, hsB, hlB, hbB⟩
        have HSB := Lib.hid hsB
        have HLB := Lib.hid hlB
        have HSA2 := Lib.hid (HSA.out.below hbB)
        have HLA2 : Hid (∀ i, i < N → SlIs encBd w12 (svV (RA i)) (LA i)) := fun i hi => (HLA.out i hi).1.below hbB
        have HB12 : Hid (Below w2.heap.size w2 w12) := HBW.out.trans ((bnext HB11.out hbB).mono HBW.out.size)
        have HSUB : Hid (∀ i, i < N → ∀ b ∈ LA i, b ∈ LB i) := fun i hi b hb => ((hlB i hi).2.2 b).2 (giv_more HKL.out (((HLA.out i hi).2.2 b).1 hb))
        have HLB2 : Hid (∀ i, i < N → SlIs encBd w12 (svV (RB i)) (LB i)) := fun i hi => (hlB i hi).1
        clear hsB hlB hbB HSA HLA HB11 HLB HBW HFA HFB
        go_wp2_with fail
        go_loopw [9] (fun i wr => ∃ ii : Nat, ii ≤ N ∧ i = .int .i64 ii ∧ Hid (Below w12.heap.size w12 wr)) (fun i _ => N - (intOf i).toNat)
        case atStart => exact ⟨0, Nat.zero_le _, rfl, Below.refl _ _⟩
        case round =>
          obtain ⟨ii, hii, rfl, hbx⟩ := hrel
          obtain ⟨wx, rfl⟩ : ∃ x, x = wr := ⟨wr, rfl⟩
          by_cases hlt : ii < N
          · obtain ⟨qa, ca, ea, ha1, ha2, ha3, ha4⟩ := sv_open (HLA2.out ii hlt)
            obtain ⟨qb, cb, eb, hb1, hb2, hb3, hb4⟩ := sv_open (HLB2.out ii hlt)
            have hca := sv_at HSA2.out hlt
            have hcb := sv_at HSB.out hlt
            rw [ea] at hca
            rw [eb] at hcb
            have HSU : Hid (∀ b ∈ LA ii, b ∈ LB ii) := HSUB.out ii hlt
            have HA3 := Lib.hid ha3
            have HB3 := Lib.hid hb3
            have HA4 := Lib.hid ha4
            have HB4' := Lib.hid hb4
            clear ha3 hb3 ea eb ha4 hb4
            generalize LA ii = la at *
            generalize LB ii = lb at *
            generalize hna : la.length = na at *
            generalize hnb2 : lb.length = nb at *
            have HNA := Lib.hid hna
            have HNB := Lib.hid hnb2
            have hna1 : (na : Int) ≤ 9223372036854775807 := by unfold maxLen at ha2; omega
            have hnb1 : (nb : Int) ≤ 9223372036854775807 := by unfold maxLen at hb2; omega
            clear hna hnb2 ha1 hb1 ha2 hb2
            have HCA : Hid (SvRow w12 ob ii (.slice qa na ca)) := hca
            have HCB : Hid (SvRow w12 ob2 ii (.slice qb nb cb)) := hcb
            clear hca hcb
            go_wp2_with fail
            go_loopw [10] (fun j wr => ∃ jj : Nat, jj ≤ na ∧ j = .int .i64 jj ∧ Hid (Below w12.heap.size w12 wr)) (fun j _ => na - (intOf j).toNat)
            case atStart => exact ⟨0, Nat.zero_le _, rfl, hbx⟩
            case round =>
              clear hbx
              obtain ⟨jj, hjj, rfl, hbx⟩ := hrel
              obtain ⟨wy, rfl⟩ : ∃ x, x = wr := ⟨wr, rfl⟩
              have hca := HCA.out.below hbx.out
              unfold SvRow at hca
              by_cases hltj : jj < na
              · go_wp2_with fail
                clear hca
                go_loopw [11, 12] (fun t j wr => ∃ (m : Nat) (bb : Bool), m ≤ nb ∧ j = .int .i64 m ∧ t = .bool bb ∧ Hid (Below w12.heap.size w12 wr) ∧ Hid (bb = true ∨ ∀ x, x < m → lb.getD x bd0 ≠ la.getD jj bd0)) (fun _ j _ => nb - (intOf j).toNat)
                case atStart => exact ⟨0, false, Nat.zero_le _, rfl, rfl, hbx, .inr fun x hx => by omega⟩
                case round =>
                  clear hbx
                  obtain ⟨m2, bb, hm2, rfl, rfl, hbx, HTH⟩ := hrel
                  obtain ⟨wz, rfl⟩ : ∃ x, x = wr := ⟨wr, rfl⟩
                  have hcb := HCB.out.below hbx.out
                  unfold SvRow at hcb
                  by_cases hltm : m2 < nb
                  · by_cases hbt : bb = true
                    · subst hbt
                      go_wp2_with fail
                      clear hcb
                      apply wp_region_relT LeW.refl LeW.trans 18
                      case hm => kernel_rfl
                      case hB => kernel_rfl
                      simp only [List.take_succ_cons, List.take_zero, List.drop_succ_cons, List.drop_zero]
                      apply wpRel_cons (t := tyIs _ _)
                      case h1 => (intro w' hl hd2; clear hl hd2; unfold relAt; go_simp; exact rel_is LeW.refl)
                      intro _
                      rw [tyIs_f]
                      go_simp
                      apply wpRel_cons (t := tyIs _ _)
                      case h1 => (intro w' hl hd2; clear hl hd2; unfold relAt; go_simp; exact rel_is LeW.refl)
                      intro _
                      rw [tyIs_f]
                      go_simp
                      apply wpRel_cons (t := tyIs _ undef)
                      case h1 => (intro w' hl hd2; clear hl hd2; unfold relAt; go_simp; exact ⟨(), rfl, trivial⟩)
                      intro _
                      rw [tyIs_f]
                      go_simp
                      apply wpRel_cons (t := tyIs _ undef)
                      case h1 => (intro w' hl hd2; clear hl hd2; unfold relAt; go_simp; exact ⟨(), rfl, trivial⟩)
                      intro _
                      rw [tyIs_f]
                      go_simp
                      apply wpRel_cons (t := tyIs _ undef)
                      case h1 => (intro w' hl hd2; clear hl hd2; unfold relAt; go_simp; exact ⟨(), rfl, trivial⟩)
                      intro _
                      rw [tyIs_f]
                      go_simp
                      apply wpRel_cons (t := tyIs _ undef)
                      case h1 => (intro w' hl hd2; clear hl hd2; unfold relAt; go_simp; exact ⟨(), rfl, trivial⟩)
                      intro _
                      rw [tyIs_f]
                      go_simp
                      apply wpRel_cons (t := tyIs _ undef)
                      case h1 => (intro w' hl hd2; clear hl hd2; unfold relAt; go_simp; exact ⟨(), rfl, trivial⟩)
                      intro _
                      rw [tyIs_f]
                      go_simp
                      apply wpRel_cons (t := tyIs _ undef)
                      case h1 => (intro w' hl hd2; clear hl hd2; unfold relAt; go_simp; exact ⟨(), rfl, trivial⟩)
                      intro _
                      rw [tyIs_f]
                      go_simp
                      apply wpRel_cons (t := tyIs _ undef)
                      case h1 => (intro w' hl hd2; clear hl hd2; unfold relAt; go_simp; exact ⟨(), rfl, trivial⟩)
                      intro _
                      rw [tyIs_f]
                      go_simp
                      apply wpRel_cons (t := tyIs _ undef)
                      case h1 => (intro w' hl hd2; clear hl hd2; unfold relAt; go_simp; exact ⟨(), rfl, trivial⟩)
                      intro _
                      rw [tyIs_f]
                      go_simp
                      apply wpRel_cons (t := tyIs _ undef)
                      case h1 => (intro w' hl hd2; clear hl hd2; unfold relAt; go_simp; exact ⟨(), rfl, trivial⟩)
                      intro _
                      rw [tyIs_f]
                      go_simp
                      apply wpRel_cons (t := tyIs _ undef)
                      case h1 => (intro w' hl hd2; clear hl hd2; unfold relAt; go_simp; exact ⟨(), rfl, trivial⟩)
                      intro _
                      rw [tyIs_f]
                      go_simp
                      apply wpRel_cons (t := tyIs _ undef)
                      case h1 => (intro w' hl hd2; clear hl hd2; unfold relAt; go_simp; exact ⟨(), rfl, trivial⟩)
                      intro _
                      rw [tyIs_f]
                      go_simp
                      apply wpRel_cons (t := tyIs _ undef)
                      case h1 => (intro w' hl hd2; clear hl hd2; unfold relAt; go_simp; exact ⟨(), rfl, trivial⟩)
                      intro _
                      rw [tyIs_f]
                      go_simp
                      apply wpRel_cons (t := tyIs _ undef)
                      case h1 => (intro w' hl hd2; clear hl hd2; unfold relAt; go_simp; exact ⟨(), rfl, trivial⟩)
                      intro _
                      rw [tyIs_f]
                      go_simp
                      apply wpRel_cons (t := tyIs _ undef)
                      case h1 => (intro w' hl hd2; clear hl hd2; unfold relAt; go_simp; exact ⟨(), rfl, trivial⟩)
                      intro _
                      rw [tyIs_f]
                      go_simp
                      apply wpRel_cons (t := tyIs _ undef)
                      case h1 => (intro w' hl hd2; clear hl hd2; unfold relAt; go_simp; exact ⟨(), rfl, trivial⟩)
                      intro _
                      rw [tyIs_f]
                      go_simp
                      apply wpRel_cons (t := tyIs _ _)
                      case h1 => (intro w' hl hd2; clear hl hd2; unfold relAt; go_simp; exact rel_is LeW.refl)
                      intro _
                      rw [tyIs_f]
                      go_simp
                      apply wpRel_nil (Ts := [])
                      intro wq hl hF
                      have HBZ := Lib.hid (hbx.out.trans ((((Below.refl _ wz).drew).trans hl).mono hbx.out.size))
                      clear hl hF
                      go_wp2_with fail
                      go_roundw
                      case rel => exact ⟨m2 + 1, true, by omega, by go_num, rfl, HBZ, .inl rfl⟩
                      case measure => simp [intOf]; omega
                    · have hbf : bb = false := by cases bb; rfl; exact absurd rfl hbt
                      subst hbf
                      have HNE : Hid (∀ x, x < m2 → lb.getD x bd0 ≠ la.getD jj bd0) := by
                        rcases HTH.out with h | h
                        · cases h
                        · exact h
                      obtain ⟨ba, oa, rfl⟩ := HA4.out (by omega)
                      obtain ⟨bb4, ob4, rfl⟩ := HB4'.out (by omega)
                      have hwd : Below w12.heap.size w12 wz.drew := hbx.out.trans ((Below.refl _ wz).drew)
                      have HXA : Hid (CellsAt wz.drew ba oa (encBd.all la)) := by
                        obtain ⟨b, off, e, hc⟩ := (HA3.out.lies).2.2.2 (by omega)
                        injection e with e
                        injection e with e1 e2 _
                        subst e1; subst e2
                        exact hc.below hwd
                      have HXB : Hid (CellsAt wz.drew bb4 ob4 (encBd.all lb)) := by
                        obtain ⟨b, off, e, hc⟩ := (HB3.out.lies).2.2.2 (by omega)
                        injection e with e
                        injection e with e1 e2 _
                        subst e1; subst e2
                        exact hc.below hwd
                      have HRA := Lib.hid (HCA.out.below hwd)
                      have HRB := Lib.hid (HCB.out.below hwd)
                      have HJL : Hid (jj < la.length) := by have := HNA.out; unfold Hid; omega
                      have HML : Hid (m2 < lb.length) := by have := HNB.out; unfold Hid; omega
                      obtain ⟨⟨x1, x2⟩, hx⟩ : ∃ x, lb.getD m2 bd0 = x := ⟨_, rfl⟩
                      obtain ⟨⟨y1, y2⟩, hy⟩ : ∃ y, la.getD jj bd0 = y := ⟨_, rfl⟩
                      have HX := Lib.hid hx
                      have HY := Lib.hid hy
                      clear hwd hx hy HTH
                      by_cases hxy : x1 = y1 ∧ x2 = y2
                      · obtain ⟨rfl, rfl⟩ := hxy
                        go_wp2_with fail
                        clear hcb
                        apply wp_region_relT LeW.refl LeW.trans 18
                        case hm => kernel_rfl
                        case hB => kernel_rfl
                        simp only [List.take_succ_cons, List.take_zero, List.drop_succ_cons, List.drop_zero]
                        apply wpRel_cons (t := tyIs _ _)
                        case h1 => (intro w' hl hd2; clear hl hd2; unfold relAt; go_simp; exact rel_is LeW.refl)
                        intro _
                        rw [tyIs_f]
                        go_simp
                        apply wpRel_cons (t := tyIs _ _)
                        case h1 => (intro w' hl hd2; clear hl hd2; unfold relAt; go_simp; exact rel_is LeW.refl)
                        intro _
                        rw [tyIs_f]
                        go_simp
                        apply wpRel_cons (t := tyIs _ _)
                        case h1 => (intro w' hl hd2; clear hl hd2; unfold relAt; go_simp; exact rel_is LeW.refl)
                        intro _
                        rw [tyIs_f]
                        go_simp
                        apply wpRel_cons (t := tyIs _ _)
                        case h1 => (intro w' hl hd2; clear hl hd2; unfold relAt; go_simp; exact rel_is LeW.refl)
                        intro _
                        rw [tyIs_f]
                        go_simp
                        apply wpRel_cons (t := tyIs _ _)
                        case h1 => (intro w' hl hd2; clear hl hd2; unfold relAt; go_simp; exact rel_is LeW.refl)
                        intro _
                        rw [tyIs_f]
                        go_simp
                        apply wpRel_cons (t := tyIs _ _)
                        case h1 => (intro w' hl hd2; have c0 := HRB.out.below hl; unfold SvRow at c0; clear hl hd2; unfold relAt; go_simp; exact rel_is LeW.refl)
                        intro _
                        rw [tyIs_f]
                        go_simp
                        apply wpRel_cons (t := tyIs _ _)
                        case h1 => (intro w' hl hd2; clear hl hd2; unfold relAt; go_simp; exact rel_is LeW.refl)
                        intro _
                        rw [tyIs_f]
                        go_simp
                        apply wpRel_cons (t := tyIs _ _)
                        case h1 => (intro w' hl hd2; clear hl hd2; unfold relAt; go_simp; exact rel_is LeW.refl)
                        intro _
                        rw [tyIs_f]
                        go_simp
                        apply wpRel_cons (t := tyIs _ _)
                        case h1 => (intro w' hl hd2; obtain ⟨d0, d1⟩ := bdAt (HXB.out.below hl) m2 HML.out; rw [HX.out] at d0 d1; clear hl hd2; unfold relAt; go_simp; exact rel_is LeW.refl)
                        intro _
                        rw [tyIs_f]
                        go_simp
                        apply wpRel_cons (t := tyIs _ _)
                        case h1 => (intro w' hl hd2; clear hl hd2; unfold relAt; go_simp; exact rel_is LeW.refl)
                        intro _
                        rw [tyIs_f]
                        go_simp
                        apply wpRel_cons (t := tyIs _ _)
                        case h1 => (intro w' hl hd2; clear hl hd2; unfold relAt; go_simp; exact rel_is LeW.refl)
                        intro _
                        rw [tyIs_f]
                        go_simp
                        apply wpRel_cons (t := tyIs _ _)
                        case h1 => (intro w' hl hd2; clear hl hd2; unfold relAt; go_simp; exact rel_is LeW.refl)
                        intro _
                        rw [tyIs_f]
                        go_simp
                        apply wpRel_cons (t := tyIs _ _)
                        case h1 => (intro w' hl hd2; have c0 := HRA.out.below hl; unfold SvRow at c0; clear hl hd2; unfold relAt; go_simp; exact rel_is LeW.refl)
                        intro _
                        rw [tyIs_f]
                        go_simp
                        apply wpRel_cons (t := tyIs _ _)
                        case h1 => (intro w' hl hd2; clear hl hd2; unfold relAt; go_simp; exact rel_is LeW.refl)
                        intro _
                        rw [tyIs_f]
                        go_simp
                        apply wpRel_cons (t := tyIs _ _)
                        case h1 => (intro w' hl hd2; clear hl hd2; unfold relAt; go_simp; exact rel_is LeW.refl)
                        intro _
                        rw [tyIs_f]
                        go_simp
                        apply wpRel_cons (t := tyIs _ _)
                        case h1 => (intro w' hl hd2; obtain ⟨d0, d1⟩ := bdAt (HXA.out.below hl) jj HJL.out; rw [HY.out] at d0 d1; clear hl hd2; unfold relAt; go_simp; exact rel_is LeW.refl)
                        intro _
                        rw [tyIs_f]
                        go_simp
                        apply wpRel_cons (t := tyIs _ _)
                        case h1 => (intro w' hl hd2; clear hl hd2; unfold relAt; go_simp; exact rel_is LeW.refl)
                        intro _
                        rw [tyIs_f]
                        go_simp
                        apply wpRel_cons (t := tyIs _ _)
                        case h1 => (intro w' hl hd2; clear hl hd2; unfold relAt; go_simp; exact rel_is LeW.refl)
                        intro _
                        rw [tyIs_f]
                        go_simp
                        apply wpRel_nil (Ts := [])
                        intro wq hl hF
                        have HBZ := Lib.hid (hbx.out.trans ((((Below.refl _ wz).drew).trans hl).mono hbx.out.size))
                        clear hl hF HXA HXB HRA HRB HX HY
                        go_wp2_with fail
                        go_roundw
                        case rel => exact ⟨m2 + 1, true, by omega, by go_num, rfl, HBZ, .inl rfl⟩
                        case measure => simp [intOf]; omega
                      · have HXY : Hid (¬ (x1 = y1 ∧ x2 = y2)) := hxy
                        clear hxy
                        go_wp2_with fail
                        clear hcb
                        apply wp_region_relT LeW.refl LeW.trans 18
                        case hm => kernel_rfl
                        case hB => kernel_rfl
                        simp only [List.take_succ_cons, List.take_zero, List.drop_succ_cons, List.drop_zero]
                        apply wpRel_cons (t := tyIs _ _)
                        case h1 => (intro w' hl hd2; clear hl hd2; unfold relAt; go_simp; exact rel_is LeW.refl)
                        intro _
                        rw [tyIs_f]
                        go_simp
                        apply wpRel_cons (t := tyIs _ _)
                        case h1 => (intro w' hl hd2; clear hl hd2; unfold relAt; go_simp; exact rel_is LeW.refl)
                        intro _
                        rw [tyIs_f]
                        go_simp
                        apply wpRel_cons (t := tyIs _ _)
                        case h1 => (intro w' hl hd2; clear hl hd2; unfold relAt; go_simp; exact rel_is LeW.refl)
                        intro _
                        rw [tyIs_f]
                        go_simp
                        apply wpRel_cons (t := tyIs _ _)
                        case h1 => (intro w' hl hd2; clear hl hd2; unfold relAt; go_simp; exact rel_is LeW.refl)
                        intro _
                        rw [tyIs_f]
                        go_simp
                        apply wpRel_cons (t := tyIs _ _)
                        case h1 => (intro w' hl hd2; clear hl hd2; unfold relAt; go_simp; exact rel_is LeW.refl)
                        intro _
                        rw [tyIs_f]
                        go_simp
                        apply wpRel_cons (t := tyIs _ _)
                        case h1 => (intro w' hl hd2; have c0 := HRB.out.below hl; unfold SvRow at c0; clear hl hd2; unfold relAt; go_simp; exact rel_is LeW.refl)
                        intro _
                        rw [tyIs_f]
                        go_simp
                        apply wpRel_cons (t := tyIs _ _)
                        case h1 => (intro w' hl hd2; clear hl hd2; unfold relAt; go_simp; exact rel_is LeW.refl)
                        intro _
                        rw [tyIs_f]
                        go_simp
                        apply wpRel_cons (t := tyIs _ _)
                        case h1 => (intro w' hl hd2; clear hl hd2; unfold relAt; go_simp; exact rel_is LeW.refl)
                        intro _
                        rw [tyIs_f]
                        go_simp
                        apply wpRel_cons (t := tyIs _ _)
                        case h1 => (intro w' hl hd2; obtain ⟨d0, d1⟩ := bdAt (HXB.out.below hl) m2 HML.out; rw [HX.out] at d0 d1; clear hl hd2; unfold relAt; go_simp; exact rel_is LeW.refl)
                        intro _
                        rw [tyIs_f]
                        go_simp
                        apply wpRel_cons (t := tyIs _ _)
                        case h1 => (intro w' hl hd2; clear hl hd2; unfold relAt; go_simp; exact rel_is LeW.refl)
                        intro _
                        rw [tyIs_f]
                        go_simp
                        apply wpRel_cons (t := tyIs _ _)
                        case h1 => (intro w' hl hd2; clear hl hd2; unfold relAt; go_simp; exact rel_is LeW.refl)
                        intro _
                        rw [tyIs_f]
                        go_simp
                        apply wpRel_cons (t := tyIs _ _)
                        case h1 => (intro w' hl hd2; clear hl hd2; unfold relAt; go_simp; exact rel_is LeW.refl)
                        intro _
                        rw [tyIs_f]
                        go_simp
                        apply wpRel_cons (t := tyIs _ _)
                        case h1 => (intro w' hl hd2; have c0 := HRA.out.below hl; unfold SvRow at c0; clear hl hd2; unfold relAt; go_simp; exact rel_is LeW.refl)
                        intro _
                        rw [tyIs_f]
                        go_simp
                        apply wpRel_cons (t := tyIs _ _)
                        case h1 => (intro w' hl hd2; clear hl hd2; unfold relAt; go_simp; exact rel_is LeW.refl)
                        intro _
                        rw [tyIs_f]
                        go_simp
                        apply wpRel_cons (t := tyIs _ _)
                        case h1 => (intro w' hl hd2; clear hl hd2; unfold relAt; go_simp; exact rel_is LeW.refl)
                        intro _
                        rw [tyIs_f]
                        go_simp
                        apply wpRel_cons (t := tyIs _ _)
                        case h1 => (intro w' hl hd2; obtain ⟨d0, d1⟩ := bdAt (HXA.out.below hl) jj HJL.out; rw [HY.out] at d0 d1; clear hl hd2; unfold relAt; go_simp; exact rel_is LeW.refl)
                        intro _
                        rw [tyIs_f]
                        go_simp
                        apply wpRel_cons (t := tyIs _ (.bool false))
                        case h1 => (intro w' hl hd2; clear hl hd2; unfold relAt; go_simp; exact (if e : x1 = y1 then (by rw [if_pos (by rw [e]), if_neg (bytes_ne (fun e2 => HXY.out ⟨e, e2⟩))]; exact rel_is LeW.refl) else (by rw [if_neg (bytes_ne e)]; exact rel_is LeW.refl)))
                        intro _
                        rw [tyIs_f]
                        go_simp
                        apply wpRel_cons (t := tyIs _ _)
                        case h1 => (intro w' hl hd2; clear hl hd2; unfold relAt; go_simp; exact rel_is LeW.refl)
                        intro _
                        rw [tyIs_f]
                        go_simp
                        apply wpRel_nil (Ts := [])
                        intro wq hl hF
                        have HBZ := Lib.hid (hbx.out.trans ((((Below.refl _ wz).drew).trans hl).mono hbx.out.size))
                        have HNE2 : Hid (∀ x, x < m2 + 1 → lb.getD x bd0 ≠ la.getD jj bd0) := fun x hx => by
                          rcases (show x < m2 ∨ x = m2 by omega) with h | rfl
                          · exact HNE.out x h
                          · rw [HX.out, HY.out]
                            intro e
                            injection e with e1 e2
                            exact HXY.out ⟨e1, e2⟩
                        clear hl hF HXA HXB HRA HRB HX HY
                        go_wp2_with fail
                        go_roundw
                        case rel => exact ⟨m2 + 1, false, by omega, by go_num, rfl, HBZ, .inr HNE2.out⟩
                        case measure => simp [intOf]; omega
                  · obtain rfl : m2 = nb := by omega
                    have hbt : bb = true := by
                      rcases HTH.out with h | h
                      · exact h
                      · exfalso
                        have hj : jj < la.length := by rw [HNA.out]; exact hltj
                        have hin := HSU.out (la.getD jj bd0) (by simp [List.getD, List.getElem?_eq_getElem hj])
                        obtain ⟨x, hx1, hx2⟩ := List.getElem_of_mem hin
                        exact h x (by rw [← HNB.out]; exact hx1) (by rw [← hx2]; simp [List.getD, List.getElem?_eq_getElem hx1])
                    subst hbt
                    clear HTH
                    go_wp2_with fail
                    go_roundw
                    case rel => exact ⟨jj + 1, by omega, by go_num, hbx⟩
                    case measure => simp [intOf]; omega
              · obtain rfl : jj = na := by omega
                go_wp2_with fail
                go_roundw
                case rel => exact ⟨ii + 1, by omega, by go_num, hbx⟩
                case measure => simp [intOf]; omega
          · obtain rfl : ii = N := by omega
            go_wp2_with fail
            refine (awake06_any _).mono ?_
            rintro e w5 ⟨rfl, hb5⟩
            have HBZ := Lib.hid (HB12.out.trans ((bnext hbx.out hb5).mono HB12.out.size))
            clear hb5
            go_wp2_with fail
            go_ret
            exact ⟨rfl, HBZ.out⟩
end Go.Proofs.Ytheigpiffdabnaa.Mds
