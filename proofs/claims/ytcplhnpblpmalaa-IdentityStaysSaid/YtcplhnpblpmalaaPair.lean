/-
  CONTRACTS: identity.pair.
-/
import Derived.Test.YtcplhnpblpmalaaPairA
namespace Go.Proofs.Ytcplhnpblpmalaa.Idn
open Go Go.RowKit Go.Maps
set_option linter.unusedVariables false
set_option maxRecDepth 1000000
set_option linter.unusedSimpArgs false

set_option maxHeartbeats 4000000 in
set_option maxRecDepth 100000 in
theorem pair_any (base : Nat) (p0 : Option Addr) (n0 c0 : Nat) (ids : List Int) (p : Option Addr) (n cap : Nat) (l : List It) (lb cl : Nat) (R : List En) (w : World) (hbase : base ≤ w.heap.size)
    (hn0 : n0 = ids.length) (hi : OwnL encI intT w base (.slice p0 n0 c0) ids) (hl : ids.length = l.length) (hs : SlIs encIt w (.slice p n cap) l) (hf : FitsI l) (hfew : l.length ≤ 1000)
    (hm : MapAt dfKeys enV w lb cl (at? R)) (hR : DifE R) (hfe : FitsE R) (hcl : cl ≤ 1000) (hRl : R.length ≤ 1000) :
    Calls Try.prog 59 #[.slice p0 n0 c0, .slice p n cap, .map (some lb)] w fun e w' => e = .returned (.tuple #[]) ∧ OwnL encI intT w' base (.slice p0 n0 c0) ((pairV R (ids.zip l)).map (·.1)) ∧ w.grownBy w' (Value.ownBlock (.slice p0 n0 c0)) := by
  obtain ⟨hn, hc1, hc2, hlies⟩ := hs.lies
  have hnb : (n : Int) ≤ 1000 := by omega
  have hlb := hm.lt
  have Hn := Lib.hid hn
  have HFI := Lib.hid hf
  have HFE := Lib.hid hfe
  have HR := Lib.hid hR
  have HI := Lib.hid hi
  have HM := Lib.hid hm
  have HRL := Lib.hid hRl
  have HLS := Lib.hid hlies
  have HN0 := Lib.hid hn0
  have HL := Lib.hid hl
  have HCL := Lib.hid hcl
  have HLB := Lib.hid hlb
  have HBA := Lib.hid hbase
  have HFW := Lib.hid hfew
  clear hn hs hf hfe hR hi hm hRl hlies hn0 hl hfew hcl hlb hbase
  have hmm := @run_makeMap Try.prog
  obtain ⟨i0, hi0, hz0, hz1, hz2⟩ := info_parts info_int
  go_enter Try.func59, Try.ntmps59
  go_wp2_with (first | (at_range; refine wpList_range (K := dfKeys) (val := enV) _ rfl _ mapD 39 rfl Try.underlying74 rfl (HM.out.alloc _) ?_; intro w0 hrg0 hg0 hs0) | go_in)
  go_frame
  simp only [World.size_alloc] at hrg0 hs0 ⊢
  have HA0 := Lib.hid (LoopA.start HM.out hrg0 hg0 hs0 HR.out)
  clear hrg0 hg0 hs0
  go_loopw [8] (fun _ wr => ∃ (lf : Df → Bool) (left : Nat) (g : ByteArray → Option Value) (zs : ByteArray → List Int) (cnt : Nat), Hid (LoopA w wr lb cl R lf left g zs cnt)) (fun _ wr => wr.rangeLeft lb (w.heap.size + 1))
  case atStart => exact ⟨_, _, _, _, _, HA0⟩
  case round =>
    obtain ⟨lf, left, g, zs, cnt, HA⟩ := hrel
    clear HA0
    go_wp2_with (first | (at_next; refine wpList_next (K := dfKeys) (val := enV) _ rfl _ rfl rfl HA.out.range HA.out.sup ?_ ?_) | go_in)
    · intro h0 hl0
      obtain ⟨wA, rfl⟩ : ∃ x, x = wr := ⟨wr, rfl⟩
      have HPE : Hid (∀ s, (zs s).Perm ((R.filter fun y => decide (shp y.2 = s)).map (·.1))) := fun s => by
        rw [← givL_end R lf s (fun y hy => hl0 _ _ (show dfKeys.ok (dfn y.2) from ⟨(HFE.out y hy).1.1, (HFE.out y hy).1.2.1⟩))]
        exact HA.out.perm s
      have HG1 := Lib.hid HA.out.grp
      have HO1 := Lib.hid HA.out.old
      clear HA h0 hl0 lf left HM
      go_wp2_with fail
      generalize hB0 : wA.alloc (.map #[] 0) = wB0 at *
      have HB0 : Hid (LoopB wA wB0 ids l 0 (fun _ => none) (fun _ => []) 0) := by rw [← hB0]; exact LoopB.start wA ids l
      clear hB0
      go_loopw [37] (fun i wr => ∃ (j : Nat) (g2 : ByteArray → Option Value) (z2 : ByteArray → List Int) (cnt2 : Nat), j ≤ n ∧ i = .int .i64 j ∧ Hid (LoopB wA wr ids l j g2 z2 cnt2)) (fun i _ => n - (intOf i).toNat)
      case atStart => exact ⟨0, _, _, _, Nat.zero_le _, rfl, HB0⟩
      case round =>
        obtain ⟨j, g2, z2, cnt2, hj, rfl, HB⟩ := hrel
        clear HB0
        by_cases hlt : j < n
        · obtain ⟨b, off, rfl, hc0⟩ := HLS.out (by omega)
          have hjl : j < l.length := by rw [← Hn.out]; exact hlt
          have hje : j < ids.length := by rw [HL.out]; exact hjl
          obtain ⟨-, -, -, hi3⟩ := HI.out.sl.lies
          obtain ⟨ib, io, rfl, hic⟩ := hi3 (by rw [HN0.out]; omega)
          have hjn : (j : Int) < (n0 : Int) := by have := HN0.out; omega
          obtain ⟨q0, q1, q2⟩ := itAt ((hc0.below HO1.out).below HB.out.old) j hjl
          have d0 := intAt ((hic.below HO1.out).below HB.out.old) j hje
          have HFJ := Lib.hid (fitI_at HFI.out j hjl)
          generalize hx : l.getD j it0 = x at *
          generalize hd : ids.getD j 0 = dz at *
          obtain ⟨m, nm, s⟩ := x
          have HXe := Lib.hid hx
          have HDe := Lib.hid hd
          have HC0 := Lib.hid hc0
          have HIC := Lib.hid hic
          have d1 : ∀ o, (wr.alloc o).cell? ⟨ib, io + j, none⟩ = some (.int .i64 dz) := fun o => by rw [(below_box wr o).cell (World.block_lt_of_cell? wr _ d0)]; exact d0
          clear hx hd hc0 hic hjl hje hi3
          by_cases hz : dz = 0
          · have hz' : (dz == 0) = true := by simpa using hz
            have HZ0 := Lib.hid hz
            obtain ⟨fm, fn, fs⟩ := HFJ.out
            have HFS : Hid (s.size ≤ maxLen) := fs
            have HBX : Hid (LoopB wA (wr.alloc (.cells #[.string m, .string nm, .string s] 37)) ids l j g2 z2 cnt2) := ⟨HB.out.old.trans ((below_box wr _).mono HB.out.old.size), Nat.le_trans HB.out.size (below_box wr _).size, HB.out.grp.below (below_box wr _), HB.out.few, HB.out.val⟩
            have HX := Lib.hid (cellsAt_alloc wr [.string m, .string nm, .string s] 37).drew1
            have HXG : Hid (∀ (s : ByteArray) (k : Nat), (slOf (g2 s)).ownBlock = some k → k ≠ wr.heap.size) := fun s k e => by have := ((HB.out.grp.slice s).lt k e).2; omega
            have HXG2 : Hid (wr.heap.size < (wr.alloc (.cells #[.string m, .string nm, .string s] 37)).heap.size) := by unfold Hid; simp
            clear hz fm fn fs HB
            go_wp2_with fail
            clear q0 q1 q2 d0 d1
            generalize wr.alloc (.cells #[.string m, .string nm, .string s] 37) = wy at *
            generalize wr.heap.size = xb at *
            have HBY : Hid (LoopB wA wy.drew ids l j g2 z2 cnt2) := ⟨HBX.out.old.trans ((Below.refl _ wy).drew.mono HBX.out.old.size), HBX.out.size, HBX.out.grp.below (Below.refl _ wy).drew, HBX.out.few, HBX.out.val⟩
            have HG := Lib.hid HBY.out.grp
            have HXR : Hid (some xb ≠ (slOf (g2 s)).ownBlock) := fun e => HXG.out s xb e.symm rfl
            have HXL : Hid (xb < wy.drew.heap.size) := HXG2.out
            have HMR : Hid (some wA.heap.size ≠ (slOf (g2 s)).ownBlock) := fun e => by have := (HG.out.slice s).lt _ e.symm; omega
            have HRW : Hid (∀ j, (slOf (g2 s)).ownBlock = some j → j < wy.heap.size) := fun j e => ((HG.out.slice s).lt j e).2
            have HZL : Hid ((z2 s).length ≤ 100000) := by have := takZ_len ids l s j; rw [Hid, HBY.out.val]; omega
            have HBS : Hid (wA.heap.size + 1 ≤ wy.drew.heap.size) := HBX.out.size
            generalize hrow : (slOf (g2 s)).ownBlock = row at *
            have HRE : Hid (row = (slOf (g2 s)).ownBlock) := hrow.symm
            clear hrow
            apply wp_region_one 9 10 AL (CR row) (fun W => wy.drew.grownBy W row) (fun W => GrpG W wA.heap.size cnt2 (wA.heap.size + 1) g2 z2) (fun _ _ => False)
            case hIA => (intro x y hl h; exact h.trans ⟨hl.os, hl.tape, hl.output, hl.size, fun i hi _ => hl.block i hi⟩)
            case hIC => (intro x y hl h; exact h.trans hl)
            case hPA => (intro x y hl h; exact h.below hl)
            case hm => kernel_rfl
            case hB => kernel_rfl
            case h0 => exact ⟨rfl, rfl, rfl, Nat.le_refl _, fun _ _ _ => rfl⟩
            case h1 => exact HG.out
            case hP => (rintro k a' W hf hd; exact hf.elim)
            simp only [List.take_succ_cons, List.take_zero, List.drop_succ_cons, List.drop_zero]
            apply wpOne_cons (t := tvIs _) (tvIs_good _ _)
            case h1 => (intro W hI hl; clear hI hl; unfold oneAt; go_simp; exact one_isL (Below.refl _ _) (by decide))
            intro _
            rw [tvIs_f]
            go_simp
            apply wpOne_cons (t := tvIs _) (tvIs_good _ _)
            case h1 => (intro W hI hl; obtain ⟨x0, x1, x2⟩ := en3 (cells_row HX.out hI HXR.out HXL.out); clear hI hl; unfold oneAt; go_simp; exact one_isL (Below.refl _ _) (by decide))
            intro _
            rw [tvIs_f]
            go_simp
            apply wpOne_cons (t := tvIs _) (tvIs_good _ _)
            case h1 => (intro W hI hl; obtain ⟨x0, x1, x2⟩ := en3 (cells_row HX.out hI HXR.out HXL.out); clear hI hl; unfold oneAt; go_simp; exact one_isL (Below.refl _ _) (by decide))
            intro _
            rw [tvIs_f]
            go_simp
            apply wpOne_cons (t := tvIs _) (tvIs_good _ _)
            case h1 => (intro W hI hl; clear hI hl; unfold oneAt; go_simp; exact one_isL (Below.refl _ _) (by decide))
            intro _
            rw [tvIs_f]
            go_simp
            apply wpOne_cons (t := tvIs _) (tvIs_good _ _)
            case h1 => (intro W hI hl; obtain ⟨x0, x1, x2⟩ := en3 (cells_row HX.out hI HXR.out HXL.out); clear hI hl; unfold oneAt; go_simp; exact one_isL (Below.refl _ _) (by decide))
            intro _
            rw [tvIs_f]
            go_simp
            apply wpOne_cons (t := tvIs _) (tvIs_good _ _)
            case h1 => (intro W hI hl; obtain ⟨x0, x1, x2⟩ := en3 (cells_row HX.out hI HXR.out HXL.out); clear hI hl; unfold oneAt; go_simp; exact one_isL (Below.refl _ _) (by decide))
            intro _
            rw [tvIs_f]
            go_simp
            apply wpOne_cons (t := tvIs (slOf (g2 s))) (tvIs_good _ _)
            case h1 => (intro W hI hl; have hlk := look_row HG.out hI HMR.out s HFS.out; clear hI hl; unfold oneAt; go_simp; exact one_isL (Below.refl _ _) (by decide))
            intro _
            rw [tvIs_f]
            go_simp
            apply wpOne_cons (t := tvIs _) (tvIs_good _ _)
            case h1 => (intro W hI hl; clear hI hl; unfold oneAt; go_simp; exact one_isL (Below.refl _ _) (by decide))
            intro _
            rw [tvIs_f]
            go_simp
            apply wpOne_cons (t := tvOne row (j : Int)) (tvOne_good _ _ _ _)
            case h1 => (intro W hI hl; have hrw : ∀ j, row = some j → j < W.heap.size := fun j e => Nat.lt_of_lt_of_le (HRW.out j e) hI.size; clear hI hl; unfold oneAt; go_simp; exact tvOne_mk hrw (by decide))
            rintro ⟨sb, -⟩
            rw [tvOne_f]
            go_simp
            apply wpOne_cons (t := tvApp row wy.heap.size (wA.heap.size + 1) (z2 s ++ [(j : Int)])) (tvApp_good _ _ _ _ _)
            case h1 => (
              intro W hI hl
              have hG : GrpG W wA.heap.size cnt2 (wA.heap.size + 1) g2 z2 := hl.1 rfl
              have hc := lean_of hl 8 (by kernel_rfl)
              simp [upd, preAt] at hc
              have hc1 : CellsAt W sb 0 [.int .i64 (j : Int)] := hc.1
              obtain ⟨v', w', hr, ho⟩ := tvApp_mk (c := 9) (Pn := fun _ _ => False) (hG.slice s) HRE.out hc1 HZL.out (Nat.le_trans HBS.out hI.size) (B := wy.heap.size) hI.size 22
              clear hI hl hG hc hc1
              exact oneAt_append rfl rfl rfl rfl hr ho)
            rintro ⟨v', -⟩
            rw [tvApp_f]
            go_simp
            apply wpOne_nil (Ts := [])
            intro w2 hI hF
            have hfin := hF 9
            simp [upd, preAt] at hfin
            have HOW3 : Hid (OwnL encI intT w2 (wA.heap.size + 1) v' (z2 s ++ [(j : Int)])) := hfin.1
            have HAT3 : Hid (v'.ownBlock = (slOf (g2 s)).ownBlock ∨ ∃ k, v'.ownBlock = some k ∧ wy.drew.heap.size ≤ k) := by have := hfin.2; rw [HRE.out] at this; exact this
            have HGR3 : Hid (wy.drew.grownBy w2 (slOf (g2 s)).ownBlock) := by rw [← HRE.out]; exact hI
            have HMP3 : Hid (MapAt sKeys _root_.id w2 wA.heap.size cnt2 g2) := HG.out.map.kept hI HMR.out
            clear hfin hF hI HRE
            have hcnt : cnt2 < maxLen := by have := HBY.out.few; unfold maxLen; omega
            refine wpList_store (K := sKeys) (val := _root_.id) _ rfl _ _ _ mapS 22 rfl Try.underlying117 hcnt rfl HMP3.out s rfl HFS.out v' rfl ?_
            intro w4 hm4 ht4
            have HA4 := Lib.hid (LoopB.next (s := s) HBY.out (by rw [HDe.out]; exact HZ0.out) (by rw [HXe.out]; rfl) HOW3.out HGR3.out HAT3.out hm4 ht4)
            clear hm4 ht4 HOW3 HGR3 HAT3 HMP3 HG HXR HXL HMR HRW HZL HBS HX HXG HXG2 HBX HBY
            go_wp2_with fail
            go_roundw
            case rel => exact ⟨j + 1, _, _, _, by omega, by go_num, HA4⟩
            case measure => simp [intOf]; omega
          · have hz' : (dz == 0) = false := by simpa using hz
            have HA4 : Hid (LoopB wA (wr.alloc (.cells #[.string m, .string nm, .string s] 37)) ids l (j + 1) g2 z2 cnt2) := HB.out.skip (below_box wr _) (by rw [HDe.out]; exact hz)
            clear hz HB
            go_wp2_with fail
            go_roundw
            case rel => exact ⟨j + 1, _, _, _, by omega, by go_num, HA4⟩
            case measure => simp [intOf]; omega
        · have hje : j = l.length := by have := Hn.out; omega
          subst hje
          obtain ⟨wB, rfl⟩ : ∃ x, x = wr := ⟨wr, rfl⟩
          have HMB := Lib.hid HB.out.grp.map
          go_wp2_with (first | (at_range; refine wpList_range (K := sKeys) (val := _root_.id) _ rfl _ mapS 22 rfl Try.underlying117 rfl HMB.out ?_; intro w0 hrg0 hg0 hs0) | go_in)
          go_frame
          have hb0 : Below wB.heap.size wB w0 := (Below.refl _ _).grown hg0 (Nat.le_refl _) (fun k hk => by cases hk)
          have HG20 := Lib.hid (HB.out.grp.below hb0)
          have HG10 := Lib.hid ((HG1.out.below HB.out.old).below hb0)
          have HO0 := Lib.hid (HO1.out.trans ((HB.out.old.trans (hb0.mono HB.out.old.size)).mono HO1.out.size))
          have HV := Lib.hid HB.out.val
          have HIB : Hid (∀ k, (Value.slice p0 n0 c0).ownBlock = some k → k < w.heap.size) := fun k hk => own_lt HI.out hk
          have HWA : Hid (w.heap.size ≤ wA.heap.size ∧ wA.heap.size < wB.heap.size) := ⟨HO1.out.size, by have := HB.out.size; omega⟩
          have HIT := Lib.hid (RangeAt.iter hrg0)
          have HC0 : Hid (LoopC w0 w0 wA.heap.size wB.heap.size base n0 cnt2 (.slice p0 n0 c0) ids l zs g2 (fun x => (g2 x).isSome) cnt2) := by
            refine ⟨rfl, rfl, rfl, Nat.le_refl _, fun _ _ _ _ => rfl, hrg0, ?_, fun _ h => h⟩
            rw [curL_start ids l zs _ HL.out (fun i hi hz => ?_)]
            · exact HI.out.below (HO0.out.mono (Nat.le_refl _))
            · have hne : z2 (shp (l.getD i it0)) ≠ [] := by
                rw [HV.out]
                unfold takZ
                have : i ∈ takN ids l (shp (l.getD i it0)) l.length := takN_mem.2 ⟨hi, hz, rfl⟩
                intro e
                rw [List.map_eq_nil_iff] at e
                rw [e] at this; cases this
              cases e : g2 (shp (l.getD i it0)) with
              | none => exact absurd (HB.out.grp.void _ e) hne
              | some v => rfl
          clear hrg0 hg0 hs0 hb0 HB HMB HG1 HO1
          go_loopw [12] (fun _ wx => ∃ (lf : ByteArray → Bool) (left : Nat), Hid (LoopC w0 wx wA.heap.size wB.heap.size base n0 cnt2 (.slice p0 n0 c0) ids l zs g2 lf left)) (fun _ wx => wx.rangeLeft wA.heap.size wB.heap.size)
          case atStart => exact ⟨_, _, HC0⟩
          case round =>
            obtain ⟨lf, left, HC⟩ := hrel
            clear HC0
            have HG2R : Hid (GrpG wr wA.heap.size cnt2 (wA.heap.size + 1) g2 z2) := HC.out.grp HG20.out (fun k hk => by have := HIB.out k hk; have := HWA.out; omega) HIT.out
            have HG1R : Hid (GrpG wr w.heap.size cnt (w.heap.size + 2) g zs) := HC.out.grp HG10.out (fun k hk => by have := HIB.out k hk; omega) HIT.out
            go_wp2_with (first | (at_next; refine wpList_next (K := sKeys) (val := _root_.id) _ rfl _ rfl rfl HC.out.range HC.out.sup ?_ ?_) | go_in)
            · intro _ hl0
              have hfin : curL ids l zs lf = (pairV R (ids.zip l)).map (·.1) := by
                rw [curL_end ids l zs lf (fun i hi => hl0 _ (fitI_at HFI.out i hi).2.2)]
                exact fin_pair ids l R zs HL.out HPE.out
              have HF1 : Hid (OwnL encI intT wr base (.slice p0 n0 c0) ((pairV R (ids.zip l)).map (·.1))) := by rw [← hfin]; exact HC.out.own
              have HF2 : Hid (w.grownBy wr (Value.slice p0 n0 c0).ownBlock) := by
                refine ⟨HC.out.os.trans HO0.out.os, HC.out.tape.trans HO0.out.tape, HC.out.output.trans HO0.out.output, Nat.le_trans HO0.out.size HC.out.size, fun k hk hne => ?_⟩
                have := HWA.out
                rw [HC.out.blk k (Nat.lt_of_lt_of_le hk HO0.out.size) (by omega) hne]
                exact HO0.out.block k hk
              clear hfin hl0
              go_wp2_with fail
              go_end0
              exact ⟨rfl, HF1.out, HF2.out⟩
            · intro s v w1 left1 hsk hsl hsv hrg1 hlt hg1 hs1 hen
              have HME : Hid (wr.rangeLeft wA.heap.size wB.heap.size = left) := HC.out.range.left_eq
              have HNE : Hid ((Value.slice p0 n0 c0).ownBlock ≠ some wB.heap.size) := fun e => by have := HIB.out _ e; have := HWA.out; omega
              have HIR := RangeAt.iter HC.out.range
              have G2 := HG2R.out.iter hg1 HIR
              have G1 := HG1R.out.iter hg1 HIR
              obtain ⟨pv, cv, rfl, -, -, hvc⟩ := (G2.own s v hsv).sl
              obtain ⟨pg, cg, hgs, -, -, hgc⟩ := (G1.slice s).sl
              have hlk : (Instr.lookup mapS (.map (some w.heap.size)) (sKeys.mkv s) false).run Try.prog w1 = .ok (.slice pg (zs s).length cg) w1 := by rw [← hgs]; exact G1.look s hsk
              have HG1W := Lib.hid G1
              have HVS := Lib.hid (HV.out s)
              have HLT : Hid (left1 < left) := hlt
              have HSL := Lib.hid hsl
              have HRG := Lib.hid hrg1
              have HGR := Lib.hid hg1
              have HVC := Lib.hid hvc
              have HGC := Lib.hid hgc
              have HGS := Lib.hid hgs
              have HSK : Hid (s.size ≤ maxLen) := hsk
              clear hsk hsl hsv hrg1 hlt hg1 hs1 HIR G2 G1 hvc hgc hgs HG2R HG1R
              generalize hk2 : (z2 s).length = k2 at *
              generalize hk1 : (zs s).length = k1 at *
              have HK2 := Lib.hid hk2
              have HK1 := Lib.hid hk1
              clear hk2 hk1
              by_cases a2 : k2 = 1
              · by_cases a1 : k1 = 1
                · subst a1; subst a2
                  obtain ⟨i0', hz2⟩ : ∃ a, z2 s = [a] := List.length_eq_one_iff.1 HK2.out
                  obtain ⟨z, hz1⟩ : ∃ a, zs s = [a] := List.length_eq_one_iff.1 HK1.out
                  obtain ⟨i0, rfl, hi0⟩ : ∃ i : Nat, i0' = (i : Int) ∧ i < l.length := by
                    have : i0' ∈ takZ ids l s l.length := by rw [← HVS.out, hz2]; simp
                    unfold takZ at this
                    obtain ⟨i, hi, rfl⟩ := List.mem_map.1 this
                    exact ⟨i, rfl, (takN_mem.1 hi).1⟩
                  have hn0l : n0 = l.length := HN0.out.trans HL.out
                  obtain ⟨ib, hp0⟩ : ∃ ib, p0 = some ⟨ib, 0, none⟩ := by
                    rcases HI.out.2 with ⟨e, e0⟩ | ⟨g', cap', cur', e, _⟩
                    · injection e with _ e2 _; omega
                    · injection e with e1 _ _; exact ⟨g', e1⟩
                  subst hp0
                  obtain ⟨vb, vo, rfl, hv1⟩ := HVC.out (by omega)
                  obtain ⟨gb, go, rfl, hg1⟩ := HGC.out (by omega)
                  rw [hz2] at hv1
                  rw [hz1] at hg1
                  have HV1 : Hid (CellsAt w1.drew vb vo [.int .i64 (i0 : Int)]) := CellsAt.drew1 hv1
                  have HG1 : Hid (CellsAt w1.drew gb go [.int .i64 z]) := CellsAt.drew1 hg1
                  have HGW : Hid (GrpG w1.drew w.heap.size cnt (w.heap.size + 2) g zs) := HG1W.out.below (Below.refl _ _).drew
                  have hib : ib < w.heap.size := HIB.out ib rfl
                  have hset := curL_set ids l zs lf s HSL.out i0 z (by rw [← HVS.out]; exact hz2) hz1
                  have HPUT : Hid (∀ w2, Below w1.heap.size w1 w2 → LoopC w0 (w2.setCell ⟨ib, i0, none⟩ (.int .i64 z)) wA.heap.size wB.heap.size base n0 cnt2 (.slice (some ⟨ib, 0, none⟩) n0 c0) ids l zs g2 (fun u => lf u && !decide (u = s)) left1) :=
                    fun w2 h => HC.out.put HRG.out HGR.out hn0l (by have := HWA.out; omega) (by have := HWA.out; omega) h hset
                  have HOWN : Hid (OwnL encI intT w1 base (.slice (some ⟨ib, 0, none⟩) n0 c0) (curL ids l zs lf)) := own_same HC.out.own (fun k hk => HGR.out.block k (own_lt HC.out.own hk) (fun e => HNE.out (by rw [hk, e])))
                  have hi1 : (i0 : Int) < (n0 : Int) := by omega
                  have HLI : Hid (i0 < (curL ids l zs lf).length) := by rw [curL_len]; exact hi0
                  have HLK : Hid (∀ w', LeW w1.drew w' → (Instr.lookup mapS (.map (some w.heap.size)) (sKeys.mkv s) false).run Try.prog w' = .ok (.slice (some ⟨gb, go, none⟩) 1 cg) w') := fun w' hl => by
                    have := (HGW.out.below hl).look s HSK.out
                    rw [HGS.out] at this
                    exact this
                  clear hz2 hz1 hn0l hv1 hg1 hset hib hi0 HC HG1W
                  go_wp2_with fail
                  clear hlk
                  apply wp_region_relT LeW.refl LeW.trans 10
                  case hm => kernel_rfl
                  case hB => kernel_rfl
                  simp only [List.take_succ_cons, List.take_zero, List.drop_succ_cons, List.drop_zero]
                  apply wpRel_cons (t := tyIs _ _)
                  case h1 => (intro w' hl hd2; clear hl hd2; unfold relAt; go_simp; exact rel_is LeW.refl)
                  intro _
                  rw [tyIs_f]
                  go_simp
                  apply wpRel_cons (t := tyIs _ _)
                  case h1 => (intro w' hl hd2; clear hl hd2; unfold relAt; go_simp; exact rel_is LeW.refl)
                  intro _
                  rw [tyIs_f]
                  go_simp
                  apply wpRel_cons (t := tyIs _ _)
                  case h1 => (intro w' hl hd2; clear hl hd2; unfold relAt; go_simp; exact rel_is LeW.refl)
                  intro _
                  rw [tyIs_f]
                  go_simp
                  apply wpRel_cons (t := tyIs _ _)
                  case h1 => (intro w' hl hd2; have x0 : w'.cell? ⟨vb, vo, none⟩ = some (.int .i64 (i0 : Int)) := (HV1.out.below hl) 0 _ rfl; clear hl hd2; unfold relAt; go_simp; exact rel_is LeW.refl)
                  intro _
                  rw [tyIs_f]
                  go_simp
                  apply wpRel_cons (t := tyIs _ _)
                  case h1 => (intro w' hl hd2; clear hl hd2; unfold relAt; go_simp; exact rel_is LeW.refl)
                  intro _
                  rw [tyIs_f]
                  go_simp
                  apply wpRel_cons (t := tyIs _ _)
                  case h1 => (intro w' hl hd2; clear hl hd2; unfold relAt; go_simp; exact rel_is LeW.refl)
                  intro _
                  rw [tyIs_f]
                  go_simp
                  apply wpRel_cons (t := tyIs _ (.slice (some ⟨gb, go, none⟩) 1 cg))
                  case h1 => (intro w' hl hd2; have hlk := HLK.out w' hl; clear hl hd2; unfold relAt; go_simp; exact rel_is LeW.refl)
                  intro _
                  rw [tyIs_f]
                  go_simp
                  apply wpRel_cons (t := tyIs _ _)
                  case h1 => (intro w' hl hd2; clear hl hd2; unfold relAt; go_simp; exact rel_is LeW.refl)
                  intro _
                  rw [tyIs_f]
                  go_simp
                  apply wpRel_cons (t := tyIs _ _)
                  case h1 => (intro w' hl hd2; have x0 : w'.cell? ⟨gb, go, none⟩ = some (.int .i64 z) := (HG1.out.below hl) 0 _ rfl; clear hl hd2; unfold relAt; go_simp; exact rel_is LeW.refl)
                  intro _
                  rw [tyIs_f]
                  go_simp
                  apply wpRel_cons (t := tyIs _ _)
                  case h1 => (intro w' hl hd2; clear hl hd2; unfold relAt; go_simp; exact rel_is LeW.refl)
                  intro _
                  rw [tyIs_f]
                  go_simp
                  apply wpRel_nil (Ts := [])
                  intro w2 hl hF
                  have hb2 : Below w1.heap.size w1 w2 := bnext ((Below.refl _ w1).drew) hl
                  have hown2 := HOWN.out.below hb2
                  have hcell : w2.cell? ⟨ib, i0, none⟩ = some (.int .i64 ((curL ids l zs lf).getD i0 0)) := by
                    obtain ⟨-, -, -, h3⟩ := hown2.sl.lies
                    obtain ⟨ib', io', e, hc⟩ := h3 (by omega)
                    injection e with e; injection e with e1 e2 _
                    subst e1; subst e2
                    have := intAt hc i0 HLI.out
                    simpa using this
                  have hfro : w2.frozen? ⟨ib, i0, none⟩ = false := World.ownsRow.frozenAt (n := (curL ids l zs lf).length) (xs := encI.all (curL ids l zs lf)) (size := 1) (e := intT) (base := base) (cap := c0) (by
                    have h := hown2
                    have hl2 : n0 = (curL ids l zs lf).length := by rw [curL_len]; exact HN0.out.trans HL.out
                    rw [← hl2]; unfold OwnL at h; rw [← hl2] at h; exact h) i0
                  have HCn := Lib.hid (HPUT.out w2 hb2)
                  clear hl hF hb2 hown2 HPUT HOWN
                  go_wp2_with fail
                  go_roundw
                  case rel => exact ⟨_, left1, HCn⟩
                  case measure => rw [HCn.out.range.left_eq, HME.out]; exact HLT.out
                · have a1' : ((k1 : Int) == 1) = false := by simp; omega
                  subst a2
                  have HCn : Hid (LoopC w0 w1 wA.heap.size wB.heap.size base n0 cnt2 (.slice p0 n0 c0) ids l zs g2 (fun u => lf u && !decide (u = s)) left1) :=
                    HC.out.come HRG.out HGR.out HNE.out (curL_skip ids l zs lf s HSL.out (.inr (fun z e => a1 (by rw [← HK1.out, e]; rfl))))
                  clear a1
                  go_wp2_with fail
                  go_roundw
                  case rel => exact ⟨_, left1, HCn⟩
                  case measure => rw [HCn.out.range.left_eq, HME.out]; exact HLT.out
              · have a2' : ((k2 : Int) == 1) = false := by simp; omega
                have HCn : Hid (LoopC w0 w1 wA.heap.size wB.heap.size base n0 cnt2 (.slice p0 n0 c0) ids l zs g2 (fun u => lf u && !decide (u = s)) left1) :=
                  HC.out.come HRG.out HGR.out HNE.out (curL_skip ids l zs lf s HSL.out (.inl (fun e => a2 (by rw [← HK2.out, HVS.out]; exact e))))
                clear a2
                go_wp2_with fail
                go_roundw
                case rel => exact ⟨_, left1, HCn⟩
                case measure => rw [HCn.out.range.left_eq, HME.out]; exact HLT.out
    · intro da db id m nm s w1 left1 hdk hdl hdy hrg1 hlt hg1 hs1 hen
      obtain ⟨rfl, rfl⟩ : m = da ∧ nm = db := Prod.mk.inj (show (m, nm) = (da, db) from (at_some hdy).2)
      obtain ⟨HO1, HS1, HG1⟩ := HA.out.come hrg1 hg1
      have HFY := Lib.hid (HFE.out _ (at_some hdy).1)
      have HOX := Lib.hid (HO1.trans ((below_box w1 (.cells #[.int .i64 id, .string m, .string nm, .string s] 39)).mono HO1.size))
      have HSX : Hid (w.heap.size + 2 ≤ (w1.alloc (.cells #[.int .i64 id, .string m, .string nm, .string s] 39)).heap.size) := Nat.le_trans HS1 (below_box w1 _).size
      have HGX := Lib.hid (HG1.below (below_box w1 (.cells #[.int .i64 id, .string m, .string nm, .string s] 39)))
      have HRX := Lib.hid (RangeAt.below hrg1 (below_box w1 (.cells #[.int .i64 id, .string m, .string nm, .string s] 39)) hrg1.map.lt hrg1.lt)
      have HX := Lib.hid (cellsAt_alloc w1 [.int .i64 id, .string m, .string nm, .string s] 39).drew1
      have HLT : Hid (left1 < left) := hlt
      have HDL := Lib.hid hdl
      have HDY := Lib.hid hdy
      have HME : Hid (wr.rangeLeft lb (w.heap.size + 1) = left) := HA.out.range.left_eq
      have HFW := Lib.hid HA.out.few
      have HPM := Lib.hid HA.out.perm
      have HSP := Lib.hid HA.out.sup
      clear hdk hdl hdy hrg1 hlt hg1 hs1 HO1 HS1 HA
      unfold enV at hen
      simp only at hen
      simp only [enV]
      go_wp2_with fail
      obtain ⟨⟨fm, fn, fs⟩, fid⟩ := HFY.out
      have HFS : Hid (s.size ≤ maxLen) := fs
      have HG := Lib.hid (HGX.out.below (Below.refl _ _).drew)
      have HXG : Hid (∀ (s : ByteArray) (k : Nat), (slOf (g s)).ownBlock = some k → k ≠ w1.heap.size) := fun s k e => by have := ((HG1.slice s).lt k e).2; omega
      have HXG2 : Hid (w1.heap.size < (w1.alloc (.cells #[.int .i64 id, .string m, .string nm, .string s] 39)).heap.size) := by unfold Hid; simp
      clear hen HG1
      generalize w1.alloc (.cells #[.int .i64 id, .string m, .string nm, .string s] 39) = wx at *
      generalize w1.heap.size = xb at *
      have HXR : Hid (some xb ≠ (slOf (g s)).ownBlock) := fun e => by
        exact HXG.out s xb e.symm rfl
      have HXL : Hid (xb < wx.drew.heap.size) := HXG2.out
      have HMR : Hid (some w.heap.size ≠ (slOf (g s)).ownBlock) := fun e => by have := (HGX.out.slice s).lt _ e.symm; omega
      have HRW : Hid (∀ j, (slOf (g s)).ownBlock = some j → j < wx.heap.size) := fun j e => ((HGX.out.slice s).lt j e).2
      have HZL : Hid ((zs s).length ≤ 100000) := by
        have := (HPM.out s).length_eq
        have := givL_len R lf s
        have := HRL.out
        unfold Hid
        omega
      have HBS : Hid (w.heap.size + 2 ≤ wx.drew.heap.size) := HSX.out
      generalize hrow : (slOf (g s)).ownBlock = row at *
      have HRE : Hid (row = (slOf (g s)).ownBlock) := hrow.symm
      clear hrow
      apply wp_region_one 12 13 AL (CR row) (fun W => wx.drew.grownBy W row) (fun W => GrpG W w.heap.size cnt (w.heap.size + 2) g zs) (fun _ _ => False)
      case hIA => (intro x y hl h; exact h.trans ⟨hl.os, hl.tape, hl.output, hl.size, fun i hi _ => hl.block i hi⟩)
      case hIC => (intro x y hl h; exact h.trans hl)
      case hPA => (intro x y hl h; exact h.below hl)
      case hm => kernel_rfl
      case hB => kernel_rfl
      case h0 => exact ⟨rfl, rfl, rfl, Nat.le_refl _, fun _ _ _ => rfl⟩
      case h1 => exact HG.out
      case hP => (rintro k a' W hf hd; exact hf.elim)
      simp only [List.take_succ_cons, List.take_zero, List.drop_succ_cons, List.drop_zero]
      apply wpOne_cons (t := tvIs _) (tvIs_good _ _)
      case h1 => (intro W hI hl; clear hI hl; unfold oneAt; go_simp; exact one_isL (Below.refl _ _) (by decide))
      intro _
      rw [tvIs_f]
      go_simp
      apply wpOne_cons (t := tvIs _) (tvIs_good _ _)
      case h1 => (intro W hI hl; obtain ⟨x0, x1, x2, x3⟩ := en4 (cells_row HX.out hI HXR.out HXL.out); clear hI hl; unfold oneAt; go_simp; exact one_isL (Below.refl _ _) (by decide))
      intro _
      rw [tvIs_f]
      go_simp
      apply wpOne_cons (t := tvIs _) (tvIs_good _ _)
      case h1 => (intro W hI hl; obtain ⟨x0, x1, x2, x3⟩ := en4 (cells_row HX.out hI HXR.out HXL.out); clear hI hl; unfold oneAt; go_simp; exact one_isL (Below.refl _ _) (by decide))
      intro _
      rw [tvIs_f]
      go_simp
      apply wpOne_cons (t := tvIs _) (tvIs_good _ _)
      case h1 => (intro W hI hl; obtain ⟨x0, x1, x2, x3⟩ := en4 (cells_row HX.out hI HXR.out HXL.out); clear hI hl; unfold oneAt; go_simp; exact one_isL (Below.refl _ _) (by decide))
      intro _
      rw [tvIs_f]
      go_simp
      apply wpOne_cons (t := tvIs _) (tvIs_good _ _)
      case h1 => (intro W hI hl; clear hI hl; unfold oneAt; go_simp; exact one_isL (Below.refl _ _) (by decide))
      intro _
      rw [tvIs_f]
      go_simp
      apply wpOne_cons (t := tvIs _) (tvIs_good _ _)
      case h1 => (intro W hI hl; obtain ⟨x0, x1, x2, x3⟩ := en4 (cells_row HX.out hI HXR.out HXL.out); clear hI hl; unfold oneAt; go_simp; exact one_isL (Below.refl _ _) (by decide))
      intro _
      rw [tvIs_f]
      go_simp
      apply wpOne_cons (t := tvIs _) (tvIs_good _ _)
      case h1 => (intro W hI hl; obtain ⟨x0, x1, x2, x3⟩ := en4 (cells_row HX.out hI HXR.out HXL.out); clear hI hl; unfold oneAt; go_simp; exact one_isL (Below.refl _ _) (by decide))
      intro _
      rw [tvIs_f]
      go_simp
      apply wpOne_cons (t := tvIs _) (tvIs_good _ _)
      case h1 => (intro W hI hl; obtain ⟨x0, x1, x2, x3⟩ := en4 (cells_row HX.out hI HXR.out HXL.out); clear hI hl; unfold oneAt; go_simp; exact one_isL (Below.refl _ _) (by decide))
      intro _
      rw [tvIs_f]
      go_simp
      apply wpOne_cons (t := tvIs (slOf (g s))) (tvIs_good _ _)
      case h1 => (intro W hI hl; have hlk := look_row HG.out hI HMR.out s HFS.out; clear hI hl; unfold oneAt; go_simp; exact one_isL (Below.refl _ _) (by decide))
      intro _
      rw [tvIs_f]
      go_simp
      apply wpOne_cons (t := tvIs _) (tvIs_good _ _)
      case h1 => (intro W hI hl; obtain ⟨x0, x1, x2, x3⟩ := en4 (cells_row HX.out hI HXR.out HXL.out); clear hI hl; unfold oneAt; go_simp; exact one_isL (Below.refl _ _) (by decide))
      intro _
      rw [tvIs_f]
      go_simp
      apply wpOne_cons (t := tvIs _) (tvIs_good _ _)
      case h1 => (intro W hI hl; obtain ⟨x0, x1, x2, x3⟩ := en4 (cells_row HX.out hI HXR.out HXL.out); clear hI hl; unfold oneAt; go_simp; exact one_isL (Below.refl _ _) (by decide))
      intro _
      rw [tvIs_f]
      go_simp
      apply wpOne_cons (t := tvOne row id) (tvOne_good _ _ _ _)
      case h1 => (intro W hI hl; have hrw : ∀ j, row = some j → j < W.heap.size := fun j e => Nat.lt_of_lt_of_le (HRW.out j e) hI.size; clear hI hl; unfold oneAt; go_simp; exact tvOne_mk hrw (by decide))
      rintro ⟨sb, -⟩
      rw [tvOne_f]
      go_simp
      apply wpOne_cons (t := tvApp row wx.heap.size (w.heap.size + 2) (zs s ++ [id])) (tvApp_good _ _ _ _ _)
      case h1 => (
        intro W hI hl
        have hG : GrpG W w.heap.size cnt (w.heap.size + 2) g zs := hl.1 rfl
        have hc := lean_of hl 11 (by kernel_rfl)
        simp [upd, preAt] at hc
        have hc1 : CellsAt W sb 0 [.int .i64 id] := hc.1
        obtain ⟨v', w', hr, ho⟩ := tvApp_mk (c := 12) (Pn := fun _ _ => False) (hG.slice s) HRE.out hc1 HZL.out (Nat.le_trans HBS.out hI.size) (B := wx.heap.size) hI.size 22
        clear hI hl hG hc hc1
        exact oneAt_append rfl rfl rfl rfl hr ho)
      rintro ⟨v', -⟩
      rw [tvApp_f]
      go_simp
      apply wpOne_nil (Ts := [])
      intro w2 hI hF
      have hfin := hF 12
      simp [upd, preAt] at hfin
      have HOW3 : Hid (OwnL encI intT w2 (w.heap.size + 2) v' (zs s ++ [id])) := hfin.1
      have HAT3 : Hid (v'.ownBlock = (slOf (g s)).ownBlock ∨ ∃ k, v'.ownBlock = some k ∧ wx.drew.heap.size ≤ k) := by have := hfin.2; rw [HRE.out] at this; exact this
      have HGR3 : Hid (wx.drew.grownBy w2 (slOf (g s)).ownBlock) := by rw [← HRE.out]; exact hI
      have HMP3 : Hid (MapAt sKeys _root_.id w2 w.heap.size cnt g) := HG.out.map.kept hI HMR.out
      have HOD := Lib.hid (HOX.out.trans ((Below.refl _ wx).drew.mono HOX.out.size))
      have HRD := Lib.hid (RangeAt.below HRX.out ((Below.refl _ wx).drew) HRX.out.map.lt HRX.out.lt)
      clear hfin hF hI HRE
      have hcnt : cnt < maxLen := by have := HFW.out; have := HCL.out; unfold maxLen; omega
      refine wpList_store (K := sKeys) (val := _root_.id) _ rfl _ _ _ mapS 22 rfl Try.underlying117 hcnt rfl HMP3.out s rfl HFS.out v' rfl ?_
      intro w4 hm4 ht4
      have HA4 := Lib.hid (LoopA.next (y := (id, m, nm, s)) HLB.out HR.out HOD.out HSX.out HRD.out HG.out HFW.out HPM.out HSP.out HDL.out HDY.out HLT.out HOW3.out HGR3.out HAT3.out hm4 ht4)
      clear hm4 ht4 HOW3 HGR3 HAT3 HMP3 HG HOD HRD HXR HXL HMR HRW HZL HBS HX HXG HXG2 HGX HOX HSX HRX
      go_wp2_with fail
      go_roundw
      case rel => exact ⟨_, left1, _, _, _, HA4⟩
      case measure => rw [HA4.out.range.left_eq, HME.out]; exact HLT.out
end Go.Proofs.Ytcplhnpblpmalaa.Idn
