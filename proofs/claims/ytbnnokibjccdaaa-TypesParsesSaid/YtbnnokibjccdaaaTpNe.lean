/-
  CONTRACT: the reader's node: the walk.
-/
import Derived.Test.YtbnnokibjccdaaaTpI2
import Derived.Test.YtbnnokibjccdaaaTpNd
import Derived.Deep.RegionWith
namespace Go.Proofs.Ytbnnokibjccdaaa
open Go Go.RowKit Go.Maps
set_option linter.unusedVariables false
set_option linter.unusedSimpArgs false
set_option maxRecDepth 100000

set_option maxHeartbeats 4000000 in
theorem node_step (f : Nat) (hN : NodeC f) : NodeC (f + 1) := by
  intro s b k w h hs hf hk
  have hlt := h.lt
  have hnm := nmB_data s
  have hrs := rsB_data s
  have hrz := rsB_size s
  have hps := parT_succ f s.data.toList
  rw [← hnm, ← hrs] at hps
  have hnl : (nmB s).data.toList.length = mkN s := by rw [hnm]; rfl
  have hbn : (⟨(nmB s).data.toList.toArray⟩ : ByteArray) = nmB s := bytes_eq rfl
  rw [hbn] at hps
  have hb0 := below_box w (.cells #[.string ⟨#[]⟩, .slice none 0 0] tpT)
  obtain ⟨w1, hw1⟩ : ∃ y, w.alloc (.cells #[.string ⟨#[]⟩, .slice none 0 0] tpT) = y := ⟨_, rfl⟩
  obtain ⟨xb, hxb⟩ : ∃ xb, w.heap.size = xb := ⟨_, rfl⟩
  have HST := Lib.hid (fun w2 s2 k2 nm hb hr => Nd.start (w := w) (w2 := w2) (b := b) (k := k2) (s := s2) (nm := nm) hb hr hlt)
  rw [hw1] at hb0 HST
  have HNM := Lib.hid (name_any ix_any b k s w1 (h.below hb0) hs)
  generalize nmB s = nm at hnm hps hnl hbn HNM
  generalize rsB s = rs at hrs hps hrz HNM
  clear hnm hrs hb0 hbn
  by_cases hne : nm.data.toList = []
  · have hno : ∀ t r, parT (f + 1) s.data.toList = some (t, r) → 20000 < k + sizeP t := fun t r e => by
      rw [hps, if_pos hne] at e
      cases e
    have hq : (nm.toList == []) = true := by rw [Lib.toList_data, hne]; rfl
    have HNO := Lib.hid hno
    clear hno hps hnl hne
    go_enter Try.func43, Try.ntmps43
    go_wp2_with fail
    clear hw1
    refine HNM.out.mono ?_
    rintro e w2 ⟨rfl, hr2, hb2⟩
    have hnd := HST.out w2 rs k nm hb2 hr2
    have y0 : (w2.alloc (.cells #[.string nm, .slice none 0 0] tpT)).cell? ⟨w2.heap.size, 0, none⟩ = some (.string nm) := by rw [Lib.cell_of_heap hnd.box]; rfl
    have y1 : (w2.alloc (.cells #[.string nm, .slice none 0 0] tpT)).cell? ⟨w2.heap.size, 1, none⟩ = some (.slice none 0 0) := by rw [Lib.cell_of_heap hnd.box]; rfl
    have z0 := hnd.rd.c0
    have z1 := hnd.rd.c1
    have z2 := hnd.rd.warm 0
    have z3 := hnd.rd.warm 1
    have hns0 : (0 : Int) ≤ (k : Int) := by omega
    have HND := Lib.hid hnd
    clear hnd hr2 hb2 HST HNM
    obtain ⟨g0, g1, g2, g3, g4, g5⟩ := box_facts HND.out.res nm none 0 0
    have HFN := Lib.hid (Nd.fin HND.out)
    rw [hxb] at g0 g1 g2 g3 g4 g5
    have hl := HFN.out.load
    have hr := HFN.out.no (k := k) HNO.out
    rw [hxb] at hl hr
    have HL := Lib.hid hl
    have HR := Lib.hid hr
    clear hl hr HFN
    go_wp2_with fail
    try simp only [Exit.inBlock, Exit.then]
    refine bodyPost_ret (results_cell2T rfl _ _ _ ⟨xb, 0, none⟩ _ rfl HL.out) rfl ?_
    exact HR.out
  · have hq : (nm.toList == []) = false := by rw [Lib.toList_data]; simpa using hne
    rw [if_neg hne] at hps
    have hns : 0 < mkN s := by rw [← hnl]; exact List.length_pos_iff.2 hne
    clear hne hnl
    by_cases hk2 : k = 20000
    · have HNO : Hid (∀ t r, parT (f + 1) s.data.toList = some (t, r) → 20000 < k + sizeP t) := fun t r e => by
        have := sizeP_pos t
        omega
      have hk3 : ((k : Int) == 20000) = true := by rw [beq_iff_eq]; omega
      clear hps hk2
      go_enter Try.func43, Try.ntmps43
      go_wp2_with fail
      clear hw1
      refine HNM.out.mono ?_
      rintro e w2 ⟨rfl, hr2, hb2⟩
      have hnd := HST.out w2 rs k nm hb2 hr2
      have y0 : (w2.alloc (.cells #[.string nm, .slice none 0 0] tpT)).cell? ⟨w2.heap.size, 0, none⟩ = some (.string nm) := by rw [Lib.cell_of_heap hnd.box]; rfl
      have y1 : (w2.alloc (.cells #[.string nm, .slice none 0 0] tpT)).cell? ⟨w2.heap.size, 1, none⟩ = some (.slice none 0 0) := by rw [Lib.cell_of_heap hnd.box]; rfl
      have z0 := hnd.rd.c0
      have z1 := hnd.rd.c1
      have z2 := hnd.rd.warm 0
      have z3 := hnd.rd.warm 1
      have hns0 : (0 : Int) ≤ (k : Int) := by omega
      have HND := Lib.hid hnd
      clear hnd hr2 hb2 HST HNM
      obtain ⟨g0, g1, g2, g3, g4, g5⟩ := box_facts HND.out.res nm none 0 0
      have HFN := Lib.hid (Nd.fin HND.out)
      rw [hxb] at g0 g1 g2 g3 g4 g5
      have hl := HFN.out.load
      have hr := HFN.out.no (k := k) HNO.out
      rw [hxb] at hl hr
      have HL := Lib.hid hl
      have HR := Lib.hid hr
      clear hl hr HFN
      go_wp2_with fail
      try simp only [Exit.inBlock, Exit.then]
      refine bodyPost_ret (results_cell2T rfl _ _ _ ⟨xb, 0, none⟩ _ rfl HL.out) rfl ?_
      exact HR.out
    · have hk3 : ((k : Int) == 20000) = false := by rw [beq_eq_false_iff_ne]; omega
      have hki : ((k : Int) + 1) = ((k + 1 : Nat) : Int) := by push_cast; rfl
      have hwk : IntKind.i64.wrap ((k : Int) + 1) = ((k + 1 : Nat) : Int) := by rw [hki]; exact IntWalk.i64_in _ (by omega)
      have hk20 : k + 1 ≤ 20000 := by omega
      clear hki hk2
      by_cases hbg : begins 60 rs = true
      · have hcs := begins_cons hbg
        have hbz := begins_size hbg
        have HT : Hid (parT (f + 1) s.data.toList = (parL (parT f) ((cutM 60 rs).data.toList.length + 1) (cutM 60 rs).data.toList).map (fun x => (.mk nm x.1, x.2))) := by
          show _ = _
          rw [hps, hcs]
          simp only [if_true]
        have HSK := Lib.hid (fun w h => skip_any 60 b (k + 1) rs w h (by omega))
        rw [hbg] at HSK
        generalize cutM 60 rs = q at hbz HT HSK
        have HQZ : Hid (q.size < s.size) := by show _ < _; omega
        clear hps hbg hns hrz hcs hbz
        go_enter Try.func43, Try.ntmps43
        go_wp2_with fail
        clear hw1
        refine HNM.out.mono ?_
        rintro e w2 ⟨rfl, hr2, hb2⟩
        have hnd := HST.out w2 rs k nm hb2 hr2
        have y0 : (w2.alloc (.cells #[.string nm, .slice none 0 0] tpT)).cell? ⟨w2.heap.size, 0, none⟩ = some (.string nm) := by rw [Lib.cell_of_heap hnd.box]; rfl
        have y1 : (w2.alloc (.cells #[.string nm, .slice none 0 0] tpT)).cell? ⟨w2.heap.size, 1, none⟩ = some (.slice none 0 0) := by rw [Lib.cell_of_heap hnd.box]; rfl
        have z0 := hnd.rd.c0
        have z1 := hnd.rd.c1
        have z2 := hnd.rd.warm 0
        have z3 := hnd.rd.warm 1
        have hns0 : (0 : Int) ≤ (k : Int) := by omega
        have HND := Lib.hid hnd
        clear hnd hr2 hb2 HST HNM
        go_wp2_with fail
        clear hq hk3 hwk
        have hnd2 := HND.out.num (k + 1)
        rw [show ((k + 1 : Nat) : Int) = (k : Int) + 1 from by push_cast; rfl] at hnd2
        generalize hyb : w2.heap.size = yb at hnd2 ⊢
        generalize hw4 : (w2.alloc (.cells #[.string nm, .slice none 0 0] tpT)).setCell ⟨b, 1, none⟩ (.int .i64 ((k : Int) + 1)) = w4 at hnd2 ⊢
        have HND2 := Lib.hid hnd2
        clear hnd2 HND hw4 hyb
        refine (HSK.out _ HND2.out.rd).mono ?_
        rintro e w5 ⟨rfl, rfl⟩
        have HND3 := Lib.hid (HND2.out.set q)
        clear HND2 HSK y0 y1 z0 z1 z2 z3
        generalize hw5 : w4.setCell ⟨b, 0, none⟩ (.string q) = w5 at HND3 ⊢
        clear hw5
        go_wp2_with fail
        go_loopw [] (fun wr => ∃ (s1 : ByteArray) (m : Nat) (v : Value) (R : List Rw) (l : List Tp), Hid (Nd w wr b yb s1 m nm v R l) ∧ Hid (Way (parT f) q.data.toList l s1.data.toList) ∧ Hid (m = k + 1 + sizesP l) ∧ Hid (m ≤ 20000) ∧ Hid (s1.size < s.size)) (fun wr => rdSz b wr)
        case atStart => exact ⟨q, k + 1, _, _, _, HND3, Way.start _ _, by rfl, hk20, HQZ⟩
        case round =>
          clear HND3
          obtain ⟨s1, m, v, R, l, HND, HW, HM, HM2, HZ⟩ := hrel
          obtain ⟨wx, rfl⟩ : ∃ x, x = wr := ⟨wr, rfl⟩
          obtain ⟨pz, nz, cz, rfl⟩ := HND.out.row.slice
          have HMX := Lib.hid (HND.out.rd.sz)
          have HC := Lib.hid (hN s1 b m wx HND.out.rd (by have := HZ.out; omega) (by have := HZ.out; omega) HM2.out)
          go_wp2_with fail
          refine HC.out.mono ?_
          clear HC
          rintro e w6 (⟨⟨sq, pq, nq, cq⟩, t, s2, rfl, hp, hk6, hz6, hip, hrd6, hb6⟩ | ⟨⟨sq, pq, nq, cq⟩, s2, k2, rfl, hno, hrd6, hb6⟩)
          · have HP := Lib.hid hp
            have HK6 := Lib.hid hk6
            have HZ6 := Lib.hid hz6
            have hnd6 := HND.out.on hb6 hrd6
            have HIP := Lib.hid (show IsP (offK (fun j => yb + 1 ≤ j) (Value.slice pz nz cz).ownBlock) w6 ⟨sq, pq, nq, cq⟩ t from hip.mono (fun j hj => ⟨by have := heap_lt_of HND.out.box; omega, fun e => by have := (World.ownsRow.lt HND.out.row.own j e.symm).2; omega⟩))
            clear hp hk6 hz6 hip hrd6 hb6 HND
            have hb7 := below_box w6 (.cells #[.string sq, .slice pq nq cq] tpT)
            have hn7 := heap_alloc_new w6 (.cells #[.string sq, .slice pq nq cq] tpT)
            have hnd7 := hnd6.later hb7
            have HIP7 := Lib.hid (HIP.out.later hb7)
            have k0 : (w6.alloc (.cells #[.string sq, .slice pq nq cq] tpT)).cell? ⟨w6.heap.size, 0, none⟩ = some (.string sq) := by rw [Lib.cell_of_heap hn7]; rfl
            have k1 : (w6.alloc (.cells #[.string sq, .slice pq nq cq] tpT)).cell? ⟨w6.heap.size, 1, none⟩ = some (.slice pq nq cq) := by rw [Lib.cell_of_heap hn7]; rfl
            have y1 : (w6.alloc (.cells #[.string sq, .slice pq nq cq] tpT)).cell? ⟨yb, 1, none⟩ = some (.slice pz nz cz) := by rw [Lib.cell_of_heap hnd7.box]; rfl
            have hb8 := below_box (w6.alloc (.cells #[.string sq, .slice pq nq cq] tpT)) (.cells #[.string sq, .slice pq nq cq] tpT)
            have hc8 := cellsAt_alloc (w6.alloc (.cells #[.string sq, .slice pq nq cq] tpT)) (Rw.cells ⟨sq, pq, nq, cq⟩) tpT
            have HND8 := Lib.hid (hnd7.later hb8)
            have HIP8 := Lib.hid (HIP7.out.later hb8)
            have HC8 : Hid (CellsAt ((w6.alloc (.cells #[.string sq, .slice pq nq cq] tpT)).alloc (.cells #[.string sq, .slice pq nq cq] tpT)) (w6.heap.size + 1) 0 (Rw.cells ⟨sq, pq, nq, cq⟩)) := by rw [World.size_alloc] at hc8; exact hc8
            have HLL : Hid (l.length ≤ 1000000000) := by
              have h1 := HM.out
              have h2 := HM2.out
              have h3 : l.length ≤ sizesP l := length_le_sizes l
              show _ ≤ _
              omega
            have HBS : Hid (yb + 1 ≤ ((w6.alloc (.cells #[.string sq, .slice pq nq cq] tpT)).alloc (.cells #[.string sq, .slice pq nq cq] tpT)).heap.size) := heap_lt_of HND8.out.box
            clear hnd6 hb7 hn7 hnd7 hb8 hc8 HIP HIP7
            go_wp2_with (at_builtin; refine wpList_appTp rfl (.tmp 41) (.tmp 43) rfl (yb + 1) (fun j => yb + 1 ≤ j) (.slice pz nz cz) R l rfl HND8.out.row _ ⟨sq, pq, nq, cq⟩ t rfl HC8.out HIP8.out HLL HBS.out ?_)
            intro v9 w9 hr9 hg9
            obtain ⟨p9, n9, c9, rfl⟩ := hr9.slice
            have hbx := HND8.out.appBox hg9
            have y9 : w9.cell? ⟨yb, 1, none⟩ = some (.slice pz nz cz) := by rw [Lib.cell_of_heap hbx]; rfl
            have f9 : w9.frozen? ⟨yb, 1, none⟩ = false := Lib.frozen_of_heap hbx 1
            have HND10 := Lib.hid (HND8.out.app hg9 hr9)
            clear hr9 hg9 hbx k0 k1 y1 HND8 HIP8 HC8 HBS
            have HM10 : Hid (m + sizeP t = k + 1 + sizesP (l ++ [t])) := by
              have := HM.out
              rw [sizesP_append, sizesP_one]
              show _ = _
              omega
            have HS2 : Hid (s2.size < s.size) := Nat.lt_trans HZ6.out HZ.out
            have HMEAS := Lib.hid (HND10.out.rd.sz)
            by_cases h44 : begins 44 s2 = true
            · have HSK := Lib.hid (fun w h => skip_any 44 b (m + sizeP t) s2 w h (by have := HS2.out; omega))
              rw [h44] at HSK
              have HW2 := Lib.hid (way_next HW.out HP.out h44 HZ6.out)
              have HS3 := Lib.hid (cutM_size 44 s2)
              clear h44
              go_wp2_with fail
              clear y9 f9
              generalize hw10 : w9.setCell ⟨yb, 1, none⟩ (.slice p9 n9 c9) = w10 at HND10 HMEAS ⊢
              clear hw10
              refine (HSK.out _ HND10.out.rd).mono ?_
              rintro e w11 ⟨rfl, rfl⟩
              have HND11 := Lib.hid (HND10.out.set (cutM 44 s2))
              clear HND10 HSK
              generalize hw11 : w10.setCell ⟨b, 0, none⟩ (.string (cutM 44 s2)) = w11 at HND11 ⊢
              clear hw11
              go_wp2_with fail
              go_roundw
              case rel => exact ⟨cutM 44 s2, m + sizeP t, _, _, _, HND11, HW2, HM10.out, HK6.out, Nat.lt_of_le_of_lt HS3.out HS2.out⟩
              case measure => rw [HND11.out.rd.sz, HMX.out]; have h1 := HZ6.out; have h2 := HS3.out; omega
            · have hc := begins_not h44
              clear hc
              have HSK := Lib.hid (fun w h => skip_any 44 b (m + sizeP t) s2 w h (by have := HS2.out; omega))
              rw [eq_false_of_ne_true h44, (begins_not h44).1] at HSK
              go_wp2_with fail
              clear y9 f9
              generalize hw10 : w9.setCell ⟨yb, 1, none⟩ (.slice p9 n9 c9) = w10 at HND10 HMEAS ⊢
              clear hw10
              refine (HSK.out _ HND10.out.rd).mono ?_
              rintro e w11 ⟨rfl, rfl⟩
              have HND11 := Lib.hid (HND10.out.set s2)
              clear HND10 HSK
              generalize hw11 : w10.setCell ⟨b, 0, none⟩ (.string s2) = w11 at HND11 ⊢
              clear hw11
              by_cases h62 : begins 62 s2 = true
              · have HT2 := Lib.hid (way_yes HT.out HW.out HP.out h62)
                have HSK := Lib.hid (fun w h => skip_any 62 b (m + sizeP t) s2 w h (by have := HS2.out; omega))
                rw [h62] at HSK
                have HS3 := Lib.hid (Nat.lt_of_le_of_lt (cutM_size 62 s2) HS2.out)
                generalize cutM 62 s2 = s3 at HT2 HSK HS3
                have y0 : w11.cell? ⟨yb, 0, none⟩ = some (.string nm) := by rw [Lib.cell_of_heap HND11.out.box]; rfl
                have y1 : w11.cell? ⟨yb, 1, none⟩ = some (.slice p9 n9 c9) := by rw [Lib.cell_of_heap HND11.out.box]; rfl
                have hnd12 := HND11.out.set s3
                have d0 : (w11.setCell ⟨b, 0, none⟩ (.string s3)).cell? ⟨yb, 0, none⟩ = some (.string nm) := by rw [Lib.cell_of_heap hnd12.box]; rfl
                have d1 : (w11.setCell ⟨b, 0, none⟩ (.string s3)).cell? ⟨yb, 1, none⟩ = some (.slice p9 n9 c9) := by rw [Lib.cell_of_heap hnd12.box]; rfl
                obtain ⟨g0, g1, g2, g3, g4, g5⟩ := box_facts hnd12.res nm p9 n9 c9
                have hl := hnd12.finDrew.load
                have hr := hnd12.finDrew.yes (k := k) HT2.out (by rw [sizeP_mk2]; have := HM10.out; omega) HK6.out HS3.out
                rw [hxb] at g0 g1 g2 g3 g4 g5 hl hr
                have HL := Lib.hid hl
                have HR := Lib.hid hr
                have HRDX := Lib.hid (HND11.out.rd.drew)
                clear hl hr hnd12 HND11
                go_wp2_with fail
                go_region_with (go_at_call 60; refine (HSK.out _ HRDX.out).mono ?_; rintro e w12 ⟨rfl, rfl⟩)
                all_goals go_wp2_with fail
                all_goals (try simp only [Exit.inBlock, Exit.then])
                all_goals (refine bodyPost_ret (results_cell2T rfl _ _ _ ⟨xb, 0, none⟩ _ rfl HL.out) rfl ?_)
                all_goals exact HR.out
              · have HNO := Lib.hid (way_bad (k := k) HT.out HW.out HP.out h44 h62)
                have HSK := Lib.hid (fun w h => skip_any 62 b (m + sizeP t) s2 w h (by have := HS2.out; omega))
                rw [eq_false_of_ne_true h62] at HSK
                generalize cutM 62 s2 = s3 at HSK
                have y0 : w11.cell? ⟨yb, 0, none⟩ = some (.string nm) := by rw [Lib.cell_of_heap HND11.out.box]; rfl
                have y1 : w11.cell? ⟨yb, 1, none⟩ = some (.slice p9 n9 c9) := by rw [Lib.cell_of_heap HND11.out.box]; rfl
                have hnd12 := HND11.out.set s3
                have d0 : (w11.setCell ⟨b, 0, none⟩ (.string s3)).cell? ⟨yb, 0, none⟩ = some (.string nm) := by rw [Lib.cell_of_heap hnd12.box]; rfl
                have d1 : (w11.setCell ⟨b, 0, none⟩ (.string s3)).cell? ⟨yb, 1, none⟩ = some (.slice p9 n9 c9) := by rw [Lib.cell_of_heap hnd12.box]; rfl
                obtain ⟨g0, g1, g2, g3, g4, g5⟩ := box_facts hnd12.res nm p9 n9 c9
                have hl := hnd12.finDrew.load
                have hr := hnd12.finDrew.no (k := k) HNO.out
                rw [hxb] at g0 g1 g2 g3 g4 g5 hl hr
                have HL := Lib.hid hl
                have HR := Lib.hid hr
                have HRDX := Lib.hid (HND11.out.rd.drew)
                clear hl hr hnd12 HND11
                go_wp2_with fail
                go_region_with (go_at_call 60; refine (HSK.out _ HRDX.out).mono ?_; rintro e w12 ⟨rfl, rfl⟩)
                all_goals go_wp2_with fail
                all_goals (try simp only [Exit.inBlock, Exit.then])
                all_goals (refine bodyPost_ret (results_cell2T rfl _ _ _ ⟨xb, 0, none⟩ _ rfl HL.out) rfl ?_)
                all_goals exact HR.out
          · have HNO := Lib.hid (way_no (k := k) HT.out HW.out HM.out hno)
            have hnd6 := (HND.out.on hb6 hrd6).later (below_box w6 (.cells #[.string sq, .slice pq nq cq] tpT))
            have y0 : (w6.alloc (.cells #[.string sq, .slice pq nq cq] tpT)).cell? ⟨yb, 0, none⟩ = some (.string nm) := by rw [Lib.cell_of_heap hnd6.box]; rfl
            have y1 : (w6.alloc (.cells #[.string sq, .slice pq nq cq] tpT)).cell? ⟨yb, 1, none⟩ = some (.slice pz nz cz) := by rw [Lib.cell_of_heap hnd6.box]; rfl
            have HND6 := Lib.hid hnd6
            clear hno hrd6 hb6 hnd6 HND
            obtain ⟨g0, g1, g2, g3, g4, g5⟩ := box_facts HND6.out.res nm pz nz cz
            have HFN := Lib.hid (Nd.fin HND6.out)
            rw [hxb] at g0 g1 g2 g3 g4 g5
            have hl := HFN.out.load
            have hr := HFN.out.no (k := k) HNO.out
            rw [hxb] at hl hr
            have HL := Lib.hid hl
            have HR := Lib.hid hr
            clear hl hr HFN
            go_wp2_with fail
            try simp only [Exit.inBlock, Exit.then]
            refine bodyPost_ret (results_cell2T rfl _ _ _ ⟨xb, 0, none⟩ _ rfl HL.out) rfl ?_
            exact HR.out

      · obtain ⟨hc1, hc2⟩ := begins_not hbg
        have hbf := eq_false_of_ne_true hbg
        have HT : Hid (parT (f + 1) s.data.toList = some (.mk nm [], rs.data.toList)) := by
          show _ = _
          rw [hps]
          cases hd : rs.data.toList with
          | nil => rfl
          | cons c q =>
            have : c ≠ 60 := fun e => hc2 (by rw [hd, e]; rfl)
            simp [this]
        have HSZ : Hid (rs.size < s.size) := by show _ < _; omega
        have HSK := Lib.hid (fun w h => skip_any 60 b (k + 1) rs w h (by omega))
        rw [hc1, hbf] at HSK
        clear hps hc1 hc2 hbf hbg hns hrz
        go_enter Try.func43, Try.ntmps43
        go_wp2_with fail
        clear hw1
        refine HNM.out.mono ?_
        rintro e w2 ⟨rfl, hr2, hb2⟩
        have hnd := HST.out w2 rs k nm hb2 hr2
        have y0 : (w2.alloc (.cells #[.string nm, .slice none 0 0] tpT)).cell? ⟨w2.heap.size, 0, none⟩ = some (.string nm) := by rw [Lib.cell_of_heap hnd.box]; rfl
        have y1 : (w2.alloc (.cells #[.string nm, .slice none 0 0] tpT)).cell? ⟨w2.heap.size, 1, none⟩ = some (.slice none 0 0) := by rw [Lib.cell_of_heap hnd.box]; rfl
        have z0 := hnd.rd.c0
        have z1 := hnd.rd.c1
        have z2 := hnd.rd.warm 0
        have z3 := hnd.rd.warm 1
        have hns0 : (0 : Int) ≤ (k : Int) := by omega
        have HND := Lib.hid hnd
        clear hnd hr2 hb2 HST HNM
        go_wp2_with fail
        clear hq hk3 hwk
        have hnd2 := HND.out.num (k + 1)
        rw [show ((k + 1 : Nat) : Int) = (k : Int) + 1 from by push_cast; rfl] at hnd2
        generalize hyb : w2.heap.size = yb at hnd2 ⊢
        generalize hw4 : (w2.alloc (.cells #[.string nm, .slice none 0 0] tpT)).setCell ⟨b, 1, none⟩ (.int .i64 ((k : Int) + 1)) = w4 at hnd2 ⊢
        have HND2 := Lib.hid hnd2
        clear hnd2 HND hw4 hyb
        refine (HSK.out _ HND2.out.rd).mono ?_
        rintro e w5 ⟨rfl, rfl⟩
        have HND3 := Lib.hid (HND2.out.set rs)
        clear HND2 HSK y0 y1 z0 z1 z2 z3
        generalize hw5 : w4.setCell ⟨b, 0, none⟩ (.string rs) = w5 at HND3 ⊢
        clear hw5
        have y0 : w5.cell? ⟨yb, 0, none⟩ = some (.string nm) := by rw [Lib.cell_of_heap HND3.out.box]; rfl
        have y1 : w5.cell? ⟨yb, 1, none⟩ = some (.slice none 0 0) := by rw [Lib.cell_of_heap HND3.out.box]; rfl
        obtain ⟨g0, g1, g2, g3, g4, g5⟩ := box_facts HND3.out.res nm none 0 0
        have HFN := Lib.hid (Nd.fin HND3.out)
        rw [hxb] at g0 g1 g2 g3 g4 g5
        have hl := HFN.out.load
        have hr := HFN.out.yes (k := k) HT.out (by rw [sizeP_mk]; rfl) hk20 HSZ.out
        rw [hxb] at hl hr
        have HL := Lib.hid hl
        have HR := Lib.hid hr
        clear hl hr HFN
        go_wp2_with fail
        try simp only [Exit.inBlock, Exit.then]
        refine bodyPost_ret (results_cell2T rfl _ _ _ ⟨xb, 0, none⟩ _ rfl HL.out) rfl ?_
        exact HR.out
end Go.Proofs.Ytbnnokibjccdaaa
