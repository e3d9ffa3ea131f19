/-
  CONTRACT: the reference's ReadCode.
-/
import Derived.Test.YthikdkeanndidaaDoorCr
import Derived.Test.YthikdkeanndidaaDoorCk
import Derived.BigRegion
import Derived.RegionTactic
namespace Go.Proofs.YthikdkeanndidaaDoor
open Go Go.RowKit
set_option linter.unusedVariables false
set_option linter.unusedSimpArgs false
set_option maxRecDepth 1000000

theorem cd_storeD {wz : World} {B : Nat} (h : wz.heap[B]? = some (.cells #[.int .i64 0, .int .i64 0, .slice none 0 0] 24)) (m0 m1 : Int) : ∃ wf, (((wz.setCell ⟨B, 0, none⟩ (.int .i64 m0)).setCell ⟨B, 1, none⟩ (.int .i64 m1)).setCell ⟨B, 2, none⟩ (.slice none 0 0)).drew = wf ∧ But (fun a => a.block = B) wz wf ∧ wf.heap[B]? = some (.cells #[.int .i64 m0, .int .i64 m1, .slice none 0 0] 24 (0, 0)) := by
  obtain ⟨-, -, k⟩ := cd_store h m0 m1 none 0 0
  have hb := cd_but (w := wz) (B := B) m0 m1 none 0 0
  generalize ((wz.setCell ⟨B, 0, none⟩ (.int .i64 m0)).setCell ⟨B, 1, none⟩ (.int .i64 m1)).setCell ⟨B, 2, none⟩ (.slice none 0 0) = x at k hb ⊢
  exact ⟨x.drew, rfl, hb.trans (But.drew x), k⟩
theorem len_small {α : Type} {R : List α} {j : Nat} {L : List ByteArray} {s : ByteArray} (hj : j ≤ L.length) (hR : R.length = j) (hg : Fa.Got s.data.toList L true) (hs : s.size ≤ 1000000000) : R.length ≤ 1000000000 := by
  have h2 := Fa.packL_count L
  rw [hg.1 rfl, Fa.len_data] at h2
  omega
theorem rdg_bad {s : ByteArray} (h : ∀ x : Cdd, x.Ok → Fa.cdS x ≠ s) : Fa.Rdg Fa.cdS Cdd.Ok s cdd0 false := ⟨fun e => (by cases e), fun _ => h⟩

set_option maxHeartbeats 8000000 in
/-- the reference's ReadCode -/
theorem rreadCode_any (s : ByteArray) (w : World) (hs : s.size ≤ 1000000000) :
    Calls Tryd.prog 14 #[.string s] w fun e w' => RdCode w.heap.size s e w' ∧ Below w.heap.size w w' := by
  have hb0 := below_box w (.cells #[.int .i64 0, .int .i64 0, .slice none 0 0] 24)
  have HN0 : Hid ((w.alloc (.cells #[.int .i64 0, .int .i64 0, .slice none 0 0] 24)).heap[w.heap.size]? = some (.cells #[.int .i64 0, .int .i64 0, .slice none 0 0] 24)) := heap_alloc_new w _
  have HSZ : Hid ((w.alloc (.cells #[.int .i64 0, .int .i64 0, .slice none 0 0] 24)).heap.size = w.heap.size + 1) := World.size_alloc _ _
  have HS0 : Hid (s.size < 9223372036854775808) := by show _ < _; omega
  have HSM : Hid (s.size ≤ 1000000000) := hs
  obtain ⟨w0, hw0⟩ : ∃ x, w.alloc (.cells #[.int .i64 0, .int .i64 0, .slice none 0 0] 24) = x := ⟨_, rfl⟩
  rw [hw0] at hb0 HN0 HSZ
  have HB0 := Lib.hid hb0
  have HPA : Hid (Calls Tryd.prog 35 #[.string s, .int .i64 3] w0 fun e w' => PartsP w0.heap.size 3 s e w' ∧ Below w0.heap.size w0 w') := rparts_any s 3 w0 hs (by decide)
  clear hb0
  go_enter Tryd.func14, Tryd.ntmps14
  go_wp2_with fail
  refine HPA.out.mono ?_
  rintro e v0 ⟨⟨v, L0, b0, rfl, ho, hg⟩, hbv⟩
  obtain ⟨pp1, cc1, rfl, hsl⟩ := ho.sla.shape
  obtain ⟨ok, hok⟩ : ∃ ok, ok = (b0 && decide (L0.length = 3)) := ⟨_, rfl⟩
  rw [← hok]
  have HU0 : Hid (Below w.heap.size w v0) := HB0.out.trans (hbv.mono HB0.out.size)
  have HN1 : Hid (v0.heap[w.heap.size]? = some (.cells #[.int .i64 0, .int .i64 0, .slice none 0 0] 24)) := by show _ = _; rw [hbv.block _ (by rw [HSZ.out]; omega)]; exact HN0.out
  cases ok with
  | false =>
    have HR := Lib.hid (rdg_bad (fun (x : Cdd) (hx : x.Ok) => got_bad (M := [itS x.params, itS x.regs, packS (x.ops.map Fa.opS)]) HS0.out hg hok.symm rfl))
    clear hsl ho hg hbv hok HPA hw0
    obtain ⟨⟨q0, q1, q2⟩, ⟨g0, g1, g2⟩, hfin⟩ := cd_store HN1.out 0 0 none 0 0
    have HLD := Lib.hid (load_cd _ _ 0 0 none 0 0 hfin)
    have hbut := cd_but (w := v0) (B := w.heap.size) 0 0 none 0 0
    have HBF := Lib.hid (HU0.out.trans (But.below hbut HU0.out.size (fun a e => Nat.le_of_eq (Eq.symm e))))
    clear hfin hbut
    go_wp2_with fail
    exact bodyPost_ret (results_cell2 rfl _ _ _ ⟨w.heap.size, 0, none⟩ _ rfl HLD.out) rfl ⟨⟨cdd0, none, 0, false, rfl, OpsA.isNil _ _, HR.out, fun _ => rfl⟩, HBF.out⟩
  | true =>
    have hh := hok.symm
    simp only [Bool.and_eq_true, decide_eq_true_eq] at hh
    obtain ⟨hb1, hL3⟩ := hh
    subst hb1
    rw [hL3] at hsl ⊢
    obtain ⟨b1, o1, rfl, hge, hcell⟩ := hsl.row (by omega)
    have hlen : L0.length = 3 := hL3
    obtain ⟨a0, a1, a2, rfl⟩ := len3 hL3
    have x0 : v0.cell? ⟨b1, o1, none⟩ = some (.string a0) := hcell 0 (by simp) 0 _ (by decide) rfl
    have x1 : v0.cell? ⟨b1, o1 + 1, none⟩ = some (.string a1) := hcell 1 (by simp) 0 _ (by decide) rfl
    have x2 : v0.cell? ⟨b1, o1 + 2, none⟩ = some (.string a2) := hcell 2 (by simp) 0 _ (by decide) rfl
    have HX0 : Hid (v0.drew.cell? ⟨b1, o1, none⟩ = some (.string a0)) := x0
    have HX1 : Hid (v0.drew.cell? ⟨b1, o1 + 1, none⟩ = some (.string a1)) := x1
    have HX2 : Hid (v0.drew.cell? ⟨b1, o1 + 2, none⟩ = some (.string a2)) := x2
    have HLT : Hid (b1 < v0.drew.heap.size) := World.block_lt_of_cell? v0 _ x0
    have HM := Lib.hid (got_small hs hg)
    have HG := Lib.hid hg
    have HSO := Lib.hid (fun (w' : World) (hl : LeW v0.drew w') (b : Nat) (h : SlIs encN w' (.slice (some ⟨b, 0, none⟩) 2 2) [a0, a1]) => (rsome_any [a0, a1] (some ⟨b, 0, none⟩) 2 2 w' h (fun s hs => HM.out s (by simp at hs ⊢; rcases hs with h | h <;> simp [h])) (by simp)).mono (fun e w'' h => (⟨tySome_mk h.1 hl.size, h.2⟩ : (∃ p n c b, e = .returned (.tuple #[.slice p n c, .bool b]) ∧ SomeV v0.drew.heap.size [a0, a1] p n c b w'') ∧ Below w'.heap.size w' w'')))
    have HUN := Lib.hid (fun w => runpack_any a2 w (HM.out a2 (by simp)))
    clear hcell hsl ho hg hbv hok HPA hw0 hlen hL3 x0 x1 x2 hge
    go_wp2_with fail
    apply wp_region_relT LeW.refl LeW.trans 12
    case hm => kernel_rfl
    case hB => kernel_rfl
    simp only [List.take_succ_cons, List.take_zero, List.drop_succ_cons, List.drop_zero]
    apply wpRel_cons (t := tyIs _ _)
    case h1 => (intro w' hl hd2; clear hl hd2; unfold relAt; go_simp; exact rel_is LeW.refl)
    intro _
    rw [tyIs_f]
    go_simp
    apply wpRel_cons (t := tyIs _ _)
    case h1 => (intro w' hl hd2; clear hl hd2; unfold relAt; go_simp; exact rel_is LeW.refl)
    intro _
    rw [tyIs_f]
    go_simp
    apply wpRel_cons (t := tyIs _ _)
    case h1 => (intro w' hl hd2; have x0 : w'.cell? ⟨b1, o1, none⟩ = some (.string a0) := (hl.cell HLT.out).trans HX0.out; clear hl hd2; unfold relAt; go_simp; exact rel_is LeW.refl)
    intro _
    rw [tyIs_f]
    go_simp
    apply wpRel_cons (t := tyIs _ _)
    case h1 => (intro w' hl hd2; clear hl hd2; unfold relAt; go_simp; exact rel_is LeW.refl)
    intro _
    rw [tyIs_f]
    go_simp
    apply wpRel_cons (t := tyIs _ _)
    case h1 => (intro w' hl hd2; clear hl hd2; unfold relAt; go_simp; exact rel_is LeW.refl)
    intro _
    rw [tyIs_f]
    go_simp
    apply wpRel_cons (t := tyIs _ _)
    case h1 => (intro w' hl hd2; have x0 : w'.cell? ⟨b1, o1 + 1, none⟩ = some (.string a1) := (hl.cell HLT.out).trans HX1.out; clear hl hd2; unfold relAt; go_simp; exact rel_is LeW.refl)
    intro _
    rw [tyIs_f]
    go_simp
    apply wpRel_cons (t := tySlN [.string a0, .string a1] 2)
    case h1 => (intro w' hl hd2; clear hl hd2; unfold relAt; go_simp; refine ⟨below_box _ _, ⟨_, trivial⟩, rfl, ?_⟩; rw [tySlN_p]; exact cellsAt_alloc _ [.string a0, .string a1] _)
    rintro ⟨sb, -⟩
    rw [tySlN_f]
    go_simp
    apply wpRel_cons (t := tySome v0.drew.heap.size [a0, a1])
    case h1 => (intro w' hl hd2; have hx := fact_lw hd2 (j := 6) (by kernel_rfl); simp [upd] at hx; have hx2 : CellsAt w' sb 0 [.string a0, .string a1] := hx; have hsl := sl_cells (L := [a0, a1]) (n := 2) rfl hx2 (by decide); have hc := HSO.out _ hl _ hsl; clear hl hd2 hx hsl; unfold relAt; go_simp; refine ⟨LeW.refl _, ?_⟩; refine hc.mono ?_; rintro e w'' ⟨⟨p2, n2, c2, b2, rfl, hv⟩, hb''⟩; exact ⟨(p2, n2, c2, b2), rfl, hb'', hv⟩)
    rintro ⟨p2, n2, c2, b2⟩
    rw [tySome_f]
    go_simp
    apply wpRel_cons (t := tySome v0.drew.heap.size [a0, a1])
    case h1 => (intro w' hl hd2; have hx := fact_lw hd2 (j := 7) (by kernel_rfl); simp [upd] at hx; have hx3 : SomeV _ _ _ _ _ _ w' := hx; clear hl hd2 hx; unfold relAt; go_simp; exact ⟨LeW.refl _, _, rfl, hx3⟩)
    rintro ⟨p3, n3, c3, b3⟩
    rw [tySome_f]
    go_simp
    apply wpRel_cons (t := tySomeS v0.drew.heap.size [a0, a1])
    case h1 => (intro w' hl hd2; have hx := fact_lw hd2 (j := 8) (by kernel_rfl); simp [upd] at hx; have hx3 : SomeV _ _ _ _ _ _ w' := hx; clear hl hd2 hx; unfold relAt; go_simp; exact ⟨LeW.refl _, _, rfl, hx3⟩)
    rintro ⟨p4, n4, c4, b4⟩
    rw [tySomeS_f]
    go_simp
    apply wpRel_cons (t := tySomeB v0.drew.heap.size [a0, a1])
    case h1 => (intro w' hl hd2; have hx := fact_lw hd2 (j := 8) (by kernel_rfl); simp [upd] at hx; have hx3 : SomeV _ _ _ _ _ _ w' := hx; clear hl hd2 hx; unfold relAt; go_simp; exact ⟨LeW.refl _, _, rfl, hx3⟩)
    rintro ⟨p5, n5, c5, b5⟩
    rw [tySomeB_f]
    go_simp
    apply wpRel_cons (t := tySomeS v0.drew.heap.size [a0, a1])
    case h1 => (intro w' hl hd2; have hx := fact_lw hd2 (j := 9) (by kernel_rfl); simp [upd] at hx; have hx3 : SomeV _ _ _ _ _ _ w' := hx; clear hl hd2 hx; unfold relAt; go_simp; exact ⟨LeW.refl _, _, rfl, hx3⟩)
    rintro ⟨p6, n6, c6, b6⟩
    rw [tySomeS_f]
    go_simp
    apply wpRel_nil (Ts := [])
    intro w4 hl hF
    have hfa := hF 11
    have hfb := hF 10
    simp [upd] at hfa hfb
    have hfin := SomeV.same hfa hfb
    clear hfa hfb
    have HL4 := Lib.hid (bnext HU0.out (((Below.refl v0.heap.size v0).drew).trans hl))
    have y2 : w4.cell? ⟨b1, o1 + 2, none⟩ = some (.string a2) := (hl.cell HLT.out).trans HX2.out
    have HV := Lib.hid hfin
    have HN4 : Hid (w4.heap[w.heap.size]? = some (.cells #[.int .i64 0, .int .i64 0, .slice none 0 0] 24)) := by show _ = _; rw [hl.block w.heap.size (World.heap_lt HN1.out)]; exact HN1.out
    have HGE4 : Hid (v0.drew.heap.size ≤ w4.heap.size) := hl.size
    clear hl hF hfin HX0 HX1 HX2 HSO HU0 HN1 HN0 HSZ HB0
    go_wp2_with fail
    refine (HUN.out _).mono ?_
    rintro e v5 ⟨⟨v, L, bu, rfl, ho, hg⟩, hbv⟩
    obtain ⟨pL, cL, rfl, hsl⟩ := ho.sla.shape
    have HU5 := Lib.hid (bnext HL4.out hbv)
    have HN5 : Hid (v5.heap[w.heap.size]? = some (.cells #[.int .i64 0, .int .i64 0, .slice none 0 0] 24)) := by show _ = _; rw [hbv.block w.heap.size (World.heap_lt HN4.out)]; exact HN4.out
    have HV5 := Lib.hid (HV.out.below hbv)
    have HG5 := Lib.hid hg
    have HSL := Lib.hid hsl
    have HA2 : Hid (a2.size < 9223372036854775808) := by show _ < _; have := HM.out a2 (by simp); omega
    clear hbv ho hg hsl HUN HV HN4 HL4 y2
    cases b5 with
    | false =>
      have HR := Lib.hid (rdg_bad (rcd_bad HS0.out HG.out HA2.out HG5.out (.inl (by obtain ⟨l, -, -, -, h⟩ := HV5.out; exact h rfl))))
      clear HV5 HG5 HSL HM HG
      cases bu with
      | false =>
        obtain ⟨⟨q0, q1, q2⟩, ⟨g0, g1, g2⟩, hfin⟩ := cd_store HN5.out 0 0 none 0 0
        have HLD := Lib.hid (load_cd _ _ 0 0 none 0 0 hfin)
        have hbut := cd_but (w := v5) (B := w.heap.size) 0 0 none 0 0
        have HBF := Lib.hid (HU5.out.trans (But.below hbut HU5.out.size (fun a e => Nat.le_of_eq (Eq.symm e))))
        clear hfin hbut
        go_wp2_with fail
        exact bodyPost_ret (results_cell2 rfl _ _ _ ⟨w.heap.size, 0, none⟩ _ rfl HLD.out) rfl ⟨⟨cdd0, none, 0, false, rfl, OpsA.isNil _ _, HR.out, fun _ => rfl⟩, HBF.out⟩
      | true =>
        obtain ⟨⟨q0, q1, q2⟩, ⟨g0, g1, g2⟩, hfin⟩ := cd_store HN5.out 0 0 none 0 0
        have HLD := Lib.hid (load_cd _ _ 0 0 none 0 0 hfin)
        have hbut := cd_but (w := v5) (B := w.heap.size) 0 0 none 0 0
        have HBF := Lib.hid (HU5.out.trans (But.below hbut HU5.out.size (fun a e => Nat.le_of_eq (Eq.symm e))))
        clear hfin hbut
        go_wp2_with fail
        exact bodyPost_ret (results_cell2 rfl _ _ _ ⟨w.heap.size, 0, none⟩ _ rfl HLD.out) rfl ⟨⟨cdd0, none, 0, false, rfl, OpsA.isNil _ _, HR.out, fun _ => rfl⟩, HBF.out⟩
    | true =>
      cases bu with
      | false =>
        have HR := Lib.hid (rdg_bad (rcd_bad HS0.out HG.out HA2.out HG5.out (.inr (.inl rfl))))
        clear HV5 HG5 HSL HM HG
        obtain ⟨⟨q0, q1, q2⟩, ⟨g0, g1, g2⟩, hfin⟩ := cd_store HN5.out 0 0 none 0 0
        have HLD := Lib.hid (load_cd _ _ 0 0 none 0 0 hfin)
        have hbut := cd_but (w := v5) (B := w.heap.size) 0 0 none 0 0
        have HBF := Lib.hid (HU5.out.trans (But.below hbut HU5.out.size (fun a e => Nat.le_of_eq (Eq.symm e))))
        clear hfin hbut
        go_wp2_with fail
        exact bodyPost_ret (results_cell2 rfl _ _ _ ⟨w.heap.size, 0, none⟩ _ rfl HLD.out) rfl ⟨⟨cdd0, none, 0, false, rfl, OpsA.isNil _ _, HR.out, fun _ => rfl⟩, HBF.out⟩
      | true =>
        obtain ⟨l, rfl, hl1, hl2, -⟩ := HV5.out
        obtain ⟨hl3, hl4⟩ := hl2 rfl
        have hll : l.length = 2 := by have := congrArg List.length hl3; simpa using this
        obtain ⟨b2, o2, rfl, hge2, hcell⟩ := hl1.row (by omega)
        obtain ⟨m0, m1, rfl⟩ := len2 hll
        have z0 : v5.cell? ⟨b2, o2, none⟩ = some (.int .i64 m0) := hcell 0 (by simp) 0 _ (by decide) rfl
        have z1 : v5.cell? ⟨b2, o2 + 1, none⟩ = some (.int .i64 m1) := hcell 1 (by simp) 0 _ (by decide) rfl
        have HOK := Lib.hid hl4
        have HNUM := Lib.hid hl3
        obtain ⟨wz, hwz⟩ : ∃ y, v5.alloc (.cells #[.int .i64 0, .int .i64 0, .slice none 0 0] 24) = y := ⟨_, rfl⟩
        have hbz := below_box v5 (.cells #[.int .i64 0, .int .i64 0, .slice none 0 0] 24)
        have hnz : (v5.alloc (.cells #[.int .i64 0, .int .i64 0, .slice none 0 0] 24)).heap[v5.heap.size]? = some (.cells #[.int .i64 0, .int .i64 0, .slice none 0 0] 24) := heap_alloc_new v5 _
        have hsz : (v5.alloc (.cells #[.int .i64 0, .int .i64 0, .slice none 0 0] 24)).heap.size = v5.heap.size + 1 := World.size_alloc _ _
        rw [hwz] at hbz hnz hsz
        have lt2 : b2 < v5.heap.size := World.block_lt_of_cell? v5 _ z0
        have z0a : wz.cell? ⟨b2, o2, none⟩ = some (.int .i64 m0) := (hbz.cell lt2).trans z0
        have z1a : wz.cell? ⟨b2, o2 + 1, none⟩ = some (.int .i64 m1) := (hbz.cell lt2).trans z1
        have t0 : wz.cell? ⟨v5.heap.size, 0, none⟩ = some (.int .i64 0) := by rw [Lib.cell_of_heap hnz]; rfl
        have t1 : wz.cell? ⟨v5.heap.size, 1, none⟩ = some (.int .i64 0) := by rw [Lib.cell_of_heap hnz]; rfl
        have t2 : wz.cell? ⟨v5.heap.size, 2, none⟩ = some (.slice none 0 0) := by rw [Lib.cell_of_heap hnz]; rfl
        have g0 : wz.frozen? ⟨v5.heap.size, 0, none⟩ = false := Lib.frozen_of_heap hnz 0
        have g1 : wz.frozen? ⟨v5.heap.size, 1, none⟩ = false := Lib.frozen_of_heap hnz 1
        have g2 : wz.frozen? ⟨v5.heap.size, 2, none⟩ = false := Lib.frozen_of_heap hnz 2
        have ne1 : ¬ b2 = v5.heap.size := by omega
        have ne2 : ¬ v5.heap.size = b2 := by omega
        obtain ⟨wf, hwf, hbf, hnf⟩ := cd_storeD hnz m0 m1
        have HUZ : Hid (Below w.heap.size w wf) := (bnext HU5.out hbz).trans (But.below hbf (bnext HU5.out hbz).size (fun a e => by have e' : a.block = v5.heap.size := e; have := HU5.out.size; omega))
        have HBX : Hid (Below v5.heap.size v5 wf) := hbz.trans (But.below hbf hbz.size (fun a e => Nat.le_of_eq (Eq.symm e)))
        have HNF := Lib.hid hnf
        have HNZ : Hid (wf.heap[w.heap.size]? = some (.cells #[.int .i64 0, .int .i64 0, .slice none 0 0] 24)) := by show _ = _; rw [HBX.out.block w.heap.size (World.heap_lt HN5.out)]; exact HN5.out
        have HSZF : Hid (v5.heap.size + 1 ≤ wf.heap.size) := World.heap_lt hnf
        have HRES : Hid (w.heap.size < v5.heap.size) := World.heap_lt HN5.out
        clear hl1 hl2 hl3 hl4 hll hcell hge2 hbz hnz hsz lt2 hbf hnf HV5
        go_wp2_with fail
        go_region
        clear hwf z0 z1 z0a z1a t0 t1 t2 g0 g1 g2 ne1 ne2 hwz
        go_wp2_with fail
        go_loopw [11] (fun i wr => ∃ (j : Nat) (v : Value) (R : List Rop), j ≤ L.length ∧ i = .int .i64 j ∧ Hid (wr.heap[v5.heap.size]? = some (.cells #[.int .i64 m0, .int .i64 m1, v] 24 (0, 0))) ∧ Hid (OpsRow wr (v5.heap.size + 1) v R) ∧ Hid ((R.map (·.1)).map Fa.opS = L.take j) ∧ Hid (∀ r ∈ R, r.1.Ok) ∧ Hid (Below v5.heap.size v5 wr)) (fun i _ => L.length - (intOf i).toNat)
        case atStart => exact ⟨0, .slice none 0 0, [], Nat.zero_le _, rfl, HNF.out, OpsRow.isNil _ _, rfl, fun r hr => (by cases hr), HBX.out⟩
        case round =>
          obtain ⟨j, v, R, hj, rfl, HBOX, HO, HM3, HOK3, HB⟩ := hrel
          obtain ⟨wx, rfl⟩ : ∃ x, x = wr := ⟨wr, rfl⟩
          obtain ⟨pz, cz, rfl, -⟩ := HO.out.own.sla.shape
          have HNX : Hid (wx.heap[w.heap.size]? = some (.cells #[.int .i64 0, .int .i64 0, .slice none 0 0] 24)) := by show _ = _; rw [HB.out.block w.heap.size HRES.out]; exact HN5.out
          have HUX := Lib.hid (HU5.out.trans (HB.out.mono HU5.out.size))
          have HRl : Hid (R.length = j) := by have := congrArg List.length HM3.out; rw [List.length_map, List.length_map, List.length_take] at this; show _ = _; omega
          clear HNZ HNF HSZF HUZ HBX
          by_cases hlt : j < L.length
          · have hlti : (j : Int) < (L.length : Int) := by omega
            have hLB : L.length ≤ 1000000000 := len_small (Nat.le_refl _) rfl HG5.out (HM.out a2 (by simp))
            obtain ⟨bL, oL, rfl, -, hcL⟩ := HSL.out.row (by omega)
            obtain ⟨x, hx⟩ : ∃ x, x = L[j]'hlt := ⟨_, rfl⟩
            have hxm : x ∈ L := by rw [hx]; exact List.getElem_mem hlt
            have c0 : v5.cell? ⟨bL, oL + j * 1 + 0, none⟩ = some (.string x) := by rw [hx]; exact hcL j hlt 0 _ (by decide) rfl
            rw [Nat.mul_one, Nat.add_zero] at c0
            have x0 : wx.cell? ⟨bL, oL + j, none⟩ = some (.string x) := (HB.out.cell (World.block_lt_of_cell? v5 _ c0)).trans c0
            have HXZ : Hid (x.size ≤ 1000000000) := got_small (Nat.le_of_lt_succ (Nat.lt_succ_of_le (HM.out a2 (by simp)))) HG5.out x hxm
            have HXS : Hid (x.size < 9223372036854775808) := by show _ < _; have := HXZ.out; unfold Hid at this; omega
            have HPB : Hid (Calls Tryd.prog 35 #[.string x, .int .i64 6] wx fun e w' => PartsP wx.heap.size 6 x e w' ∧ Below wx.heap.size wx w') := rparts_any x 6 wx HXZ.out (by decide)
            have HX := Lib.hid hx
            have HXM := Lib.hid hxm
            clear hcL c0 hx hxm
            go_wp2_with fail
            refine HPB.out.mono ?_
            rintro e v6 ⟨⟨vq, Lq, bq0, rfl, ho, hg⟩, hbv⟩
            obtain ⟨pq, cq, rfl, hsl⟩ := ho.sla.shape
            obtain ⟨ok, hok⟩ : ∃ ok, ok = (bq0 && decide (Lq.length = 6)) := ⟨_, rfl⟩
            rw [← hok]
            have HU6 := Lib.hid (bnext HUX.out hbv)
            have HB6 : Hid (Below v5.heap.size v5 v6) := HB.out.trans (hbv.mono HB.out.size)
            have HN6 : Hid (v6.heap[w.heap.size]? = some (.cells #[.int .i64 0, .int .i64 0, .slice none 0 0] 24)) := by show _ = _; rw [hbv.block w.heap.size (World.heap_lt HNX.out)]; exact HNX.out
            have HBOX6 := Lib.hid ((hbv.block v5.heap.size (World.heap_lt HBOX.out)).trans HBOX.out)
            have HO6 := Lib.hid (HO.out.below hbv)
            have HW6 : Hid (wx.heap.size ≤ v6.heap.size) := hbv.size
            cases ok with
            | false =>
              have HR := Lib.hid (rdg_bad (rcd_bad HS0.out HG.out HA2.out HG5.out (.inr (.inr ⟨x, HXM.out, fun (o : Opp) (hoo : o.Ok) => got_bad (M := [itS o.kind, itS o.a, itS o.b, itS o.c, Fa.numsS o.list, o.sym]) HXS.out hg hok.symm rfl⟩))))
              clear hsl ho hg hbv hok HPB
              obtain ⟨⟨q0, q1, q2⟩, ⟨g0, g1, g2⟩, hfin⟩ := cd_store HN6.out 0 0 none 0 0
              have HLD := Lib.hid (load_cd _ _ 0 0 none 0 0 hfin)
              have hbut := cd_but (w := v6) (B := w.heap.size) 0 0 none 0 0
              have HBF := Lib.hid (HU6.out.trans (But.below hbut HU6.out.size (fun a e => Nat.le_of_eq (Eq.symm e))))
              clear hfin hbut
              go_wp2_with fail
              exact bodyPost_ret (results_cell2 rfl _ _ _ ⟨w.heap.size, 0, none⟩ _ rfl HLD.out) rfl ⟨⟨cdd0, none, 0, false, rfl, OpsA.isNil _ _, HR.out, fun _ => rfl⟩, HBF.out⟩
            | true =>
              have hh := hok.symm
              simp only [Bool.and_eq_true, decide_eq_true_eq] at hh
              obtain ⟨hbt, hL6⟩ := hh
              subst hbt
              rw [hL6] at hsl ⊢
              obtain ⟨bq, oq, rfl, hge, hcell⟩ := hsl.row (by omega)
              obtain ⟨q0, q1, q2, q3, q4, q5, rfl⟩ := len6 hL6
              have y0 : v6.cell? ⟨bq, oq, none⟩ = some (.string q0) := hcell 0 (by simp) 0 _ (by decide) rfl
              have y1 : v6.cell? ⟨bq, oq + 1, none⟩ = some (.string q1) := hcell 1 (by simp) 0 _ (by decide) rfl
              have y2 : v6.cell? ⟨bq, oq + 2, none⟩ = some (.string q2) := hcell 2 (by simp) 0 _ (by decide) rfl
              have y3 : v6.cell? ⟨bq, oq + 3, none⟩ = some (.string q3) := hcell 3 (by simp) 0 _ (by decide) rfl
              have y4 : v6.cell? ⟨bq, oq + 4, none⟩ = some (.string q4) := hcell 4 (by simp) 0 _ (by decide) rfl
              have y5 : v6.cell? ⟨bq, oq + 5, none⟩ = some (.string q5) := hcell 5 (by simp) 0 _ (by decide) rfl
              have HY0 : Hid (v6.drew.cell? ⟨bq, oq, none⟩ = some (.string q0)) := y0
              have HY1 : Hid (v6.drew.cell? ⟨bq, oq + 1, none⟩ = some (.string q1)) := y1
              have HY2 : Hid (v6.drew.cell? ⟨bq, oq + 2, none⟩ = some (.string q2)) := y2
              have HY3 : Hid (v6.drew.cell? ⟨bq, oq + 3, none⟩ = some (.string q3)) := y3
              have HY4 : Hid (v6.drew.cell? ⟨bq, oq + 4, none⟩ = some (.string q4)) := y4
              have HY5 : Hid (v6.drew.cell? ⟨bq, oq + 5, none⟩ = some (.string q5)) := y5
              have HLT6 : Hid (bq < v6.drew.heap.size) := World.block_lt_of_cell? v6 _ y0
              have HGE : Hid (wx.heap.size ≤ bq) := hge
              have HMQ := Lib.hid (got_small HXZ.out hg)
              have HGQ := Lib.hid hg
              have HSQ := Lib.hid (fun (w' : World) (hl : LeW v6.drew w') (b : Nat) (h : SlIs encN w' (.slice (some ⟨b, 0, none⟩) 4 4) [q0, q1, q2, q3]) => (rsome_any [q0, q1, q2, q3] (some ⟨b, 0, none⟩) 4 4 w' h (fun s hs => HMQ.out s (by simp at hs ⊢; rcases hs with h | h | h | h <;> simp [h])) (by simp)).mono (fun e w'' h => (⟨tySome_mk h.1 hl.size, h.2⟩ : (∃ p n c b, e = .returned (.tuple #[.slice p n c, .bool b]) ∧ SomeV v6.drew.heap.size [q0, q1, q2, q3] p n c b w'') ∧ Below w'.heap.size w' w'')))
              have HRN := Lib.hid (fun w => rreadNums_any q4 w (HMQ.out q4 (by simp)))
              clear hcell hsl ho hg hbv hok HPB hL6 y0 y1 y2 y3 y4 y5 hge
              go_wp2_with fail
              apply wp_region_relT LeW.refl LeW.trans 18
              case hm => kernel_rfl
              case hB => kernel_rfl
              simp only [List.take_succ_cons, List.take_zero, List.drop_succ_cons, List.drop_zero]
              apply wpRel_cons (t := tyIs _ _)
              case h1 => (intro w' hl hd2; clear hl hd2; unfold relAt; go_simp; exact rel_is LeW.refl)
              intro _
              rw [tyIs_f]
              go_simp
              apply wpRel_cons (t := tyIs _ _)
              case h1 => (intro w' hl hd2; clear hl hd2; unfold relAt; go_simp; exact rel_is LeW.refl)
              intro _
              rw [tyIs_f]
              go_simp
              apply wpRel_cons (t := tyIs _ _)
              case h1 => (intro w' hl hd2; have x0 : w'.cell? ⟨bq, oq, none⟩ = some (.string q0) := (hl.cell HLT6.out).trans HY0.out; clear hl hd2; unfold relAt; go_simp; exact rel_is LeW.refl)
              intro _
              rw [tyIs_f]
              go_simp
              apply wpRel_cons (t := tyIs _ _)
              case h1 => (intro w' hl hd2; clear hl hd2; unfold relAt; go_simp; exact rel_is LeW.refl)
              intro _
              rw [tyIs_f]
              go_simp
              apply wpRel_cons (t := tyIs _ _)
              case h1 => (intro w' hl hd2; clear hl hd2; unfold relAt; go_simp; exact rel_is LeW.refl)
              intro _
              rw [tyIs_f]
              go_simp
              apply wpRel_cons (t := tyIs _ _)
              case h1 => (intro w' hl hd2; have x0 : w'.cell? ⟨bq, oq + 1, none⟩ = some (.string q1) := (hl.cell HLT6.out).trans HY1.out; clear hl hd2; unfold relAt; go_simp; exact rel_is LeW.refl)
              intro _
              rw [tyIs_f]
              go_simp
              apply wpRel_cons (t := tyIs _ _)
              case h1 => (intro w' hl hd2; clear hl hd2; unfold relAt; go_simp; exact rel_is LeW.refl)
              intro _
              rw [tyIs_f]
              go_simp
              apply wpRel_cons (t := tyIs _ _)
              case h1 => (intro w' hl hd2; clear hl hd2; unfold relAt; go_simp; exact rel_is LeW.refl)
              intro _
              rw [tyIs_f]
              go_simp
              apply wpRel_cons (t := tyIs _ _)
              case h1 => (intro w' hl hd2; have x0 : w'.cell? ⟨bq, oq + 2, none⟩ = some (.string q2) := (hl.cell HLT6.out).trans HY2.out; clear hl hd2; unfold relAt; go_simp; exact rel_is LeW.refl)
              intro _
              rw [tyIs_f]
              go_simp
              apply wpRel_cons (t := tyIs _ _)
              case h1 => (intro w' hl hd2; clear hl hd2; unfold relAt; go_simp; exact rel_is LeW.refl)
              intro _
              rw [tyIs_f]
              go_simp
              apply wpRel_cons (t := tyIs _ _)
              case h1 => (intro w' hl hd2; clear hl hd2; unfold relAt; go_simp; exact rel_is LeW.refl)
              intro _
              rw [tyIs_f]
              go_simp
              apply wpRel_cons (t := tyIs _ _)
              case h1 => (intro w' hl hd2; have x0 : w'.cell? ⟨bq, oq + 3, none⟩ = some (.string q3) := (hl.cell HLT6.out).trans HY3.out; clear hl hd2; unfold relAt; go_simp; exact rel_is LeW.refl)
              intro _
              rw [tyIs_f]
              go_simp
              apply wpRel_cons (t := tySlN [.string q0, .string q1, .string q2, .string q3] 4)
              case h1 => (intro w' hl hd2; clear hl hd2; unfold relAt; go_simp; refine ⟨below_box _ _, ⟨_, trivial⟩, rfl, ?_⟩; rw [tySlN_p]; exact cellsAt_alloc _ [.string q0, .string q1, .string q2, .string q3] _)
              rintro ⟨sb, -⟩
              rw [tySlN_f]
              go_simp
              apply wpRel_cons (t := tySome v6.drew.heap.size [q0, q1, q2, q3])
              case h1 => (intro w' hl hd2; have hx := fact_lw hd2 (j := 12) (by kernel_rfl); simp [upd] at hx; have hx2 : CellsAt w' sb 0 [.string q0, .string q1, .string q2, .string q3] := hx; have hsl := sl_cells (L := [q0, q1, q2, q3]) (n := 4) rfl hx2 (by decide); have hc := HSQ.out _ hl _ hsl; clear hl hd2 hx hsl; unfold relAt; go_simp; refine ⟨LeW.refl _, ?_⟩; refine hc.mono ?_; rintro e w'' ⟨⟨p2, n2, c2, b2, rfl, hv⟩, hb''⟩; exact ⟨(p2, n2, c2, b2), rfl, hb'', hv⟩)
              rintro ⟨p2q, n2q, c2q, b2q⟩
              rw [tySome_f]
              go_simp
              apply wpRel_cons (t := tySome v6.drew.heap.size [q0, q1, q2, q3])
              case h1 => (intro w' hl hd2; have hx := fact_lw hd2 (j := 13) (by kernel_rfl); simp [upd] at hx; have hx3 : SomeV _ _ _ _ _ _ w' := hx; clear hl hd2 hx; unfold relAt; go_simp; exact ⟨LeW.refl _, _, rfl, hx3⟩)
              rintro ⟨p3q, n3q, c3q, b3q⟩
              rw [tySome_f]
              go_simp
              apply wpRel_cons (t := tySomeS v6.drew.heap.size [q0, q1, q2, q3])
              case h1 => (intro w' hl hd2; have hx := fact_lw hd2 (j := 14) (by kernel_rfl); simp [upd] at hx; have hx3 : SomeV _ _ _ _ _ _ w' := hx; clear hl hd2 hx; unfold relAt; go_simp; exact ⟨LeW.refl _, _, rfl, hx3⟩)
              rintro ⟨p4q, n4q, c4q, b4q⟩
              rw [tySomeS_f]
              go_simp
              apply wpRel_cons (t := tySomeB v6.drew.heap.size [q0, q1, q2, q3])
              case h1 => (intro w' hl hd2; have hx := fact_lw hd2 (j := 14) (by kernel_rfl); simp [upd] at hx; have hx3 : SomeV _ _ _ _ _ _ w' := hx; clear hl hd2 hx; unfold relAt; go_simp; exact ⟨LeW.refl _, _, rfl, hx3⟩)
              rintro ⟨p5q, n5q, c5q, b5q⟩
              rw [tySomeB_f]
              go_simp
              apply wpRel_cons (t := tySomeS v6.drew.heap.size [q0, q1, q2, q3])
              case h1 => (intro w' hl hd2; have hx := fact_lw hd2 (j := 15) (by kernel_rfl); simp [upd] at hx; have hx3 : SomeV _ _ _ _ _ _ w' := hx; clear hl hd2 hx; unfold relAt; go_simp; exact ⟨LeW.refl _, _, rfl, hx3⟩)
              rintro ⟨p6q, n6q, c6q, b6q⟩
              rw [tySomeS_f]
              go_simp
              apply wpRel_nil (Ts := [])
              intro w7 hl hF
              have hfa := hF 17
              have hfb := hF 16
              simp [upd] at hfa hfb
              have hfin := SomeV.same hfa hfb
              clear hfa hfb
              have HUA := Lib.hid (bnext HU6.out (((Below.refl v6.heap.size v6).drew).trans hl))
              have HBA : Hid (Below v5.heap.size v5 w7) := HB6.out.trans ((((Below.refl v6.heap.size v6).drew).trans hl).mono HB6.out.size)
              have yy4 : w7.cell? ⟨bq, oq + 4, none⟩ = some (.string q4) := (hl.cell HLT6.out).trans HY4.out
              have HZ5 : Hid (w7.cell? ⟨bq, oq + 5, none⟩ = some (.string q5)) := (hl.cell HLT6.out).trans HY5.out
              have HV := Lib.hid hfin
              have HN7 : Hid (w7.heap[w.heap.size]? = some (.cells #[.int .i64 0, .int .i64 0, .slice none 0 0] 24)) := by show _ = _; rw [hl.block w.heap.size (World.heap_lt HN6.out)]; exact HN6.out
              have HBOX7 : Hid (w7.heap[v5.heap.size]? = _) := (hl.block v5.heap.size (World.heap_lt HBOX6.out)).trans HBOX6.out
              have HLOW7 : Hid (v5.heap.size + 1 ≤ w7.heap.size) := World.heap_lt HBOX7.out
              have HO7 := Lib.hid (HO6.out.below (((Below.refl v6.heap.size v6).drew).trans hl))
              have HW7 : Hid (v6.drew.heap.size ≤ w7.heap.size) := hl.size
              clear hl hF hfin HY0 HY1 HY2 HY3 HY4 HY5 HSQ HU6 HB6 HN6 HBOX6 HUX HB HNX HBOX x0
              go_wp2_with fail
              refine (HRN.out _).mono ?_
              rintro e v8 ⟨⟨vl, li, bl, rfl, hol, hrl⟩, hb8⟩
              obtain ⟨pl, cl, rfl, hsl8⟩ := hol.sla.shape
              have HU8 := Lib.hid (bnext HUA.out hb8)
              have HB8 : Hid (Below v5.heap.size v5 v8) := HBA.out.trans (hb8.mono HBA.out.size)
              have HN8 : Hid (v8.heap[w.heap.size]? = some (.cells #[.int .i64 0, .int .i64 0, .slice none 0 0] 24)) := by show _ = _; rw [hb8.block w.heap.size (World.heap_lt HN7.out)]; exact HN7.out
              have HBOX8 := Lib.hid ((hb8.block v5.heap.size (World.heap_lt HBOX7.out)).trans HBOX7.out)
              have HO8 := Lib.hid (HO7.out.below hb8)
              have HV8 := Lib.hid (HV.out.below hb8)
              have HQ58 := Lib.hid ((hb8.cell (World.block_lt_of_cell? w7 _ HZ5.out)).trans HZ5.out)
              have HRL := Lib.hid hrl
              have HSL8 := Lib.hid hsl8
              clear hb8 hol hrl hsl8 HRN HV HN7 HUA HBA HBOX7 HZ5 yy4
              cases b5q with
              | false =>
                have HR := Lib.hid (rdg_bad (rcd_bad HS0.out HG.out HA2.out HG5.out (.inr (.inr ⟨x, HXM.out, fun (o : Opp) (hoo : o.Ok) => rop_bad HXS.out HGQ.out (.inl (by obtain ⟨l, -, -, -, h⟩ := HV8.out; exact h rfl)) o hoo⟩))))
                clear HV8 HO8 HO7 HBOX8 HQ58 HRL HSL8
                cases bl with
                | false =>
                  obtain ⟨⟨q0, q1, q2⟩, ⟨g0, g1, g2⟩, hfin⟩ := cd_store HN8.out 0 0 none 0 0
                  have HLD := Lib.hid (load_cd _ _ 0 0 none 0 0 hfin)
                  have hbut := cd_but (w := v8) (B := w.heap.size) 0 0 none 0 0
                  have HBF := Lib.hid (HU8.out.trans (But.below hbut HU8.out.size (fun a e => Nat.le_of_eq (Eq.symm e))))
                  clear hfin hbut
                  go_wp2_with fail
                  exact bodyPost_ret (results_cell2 rfl _ _ _ ⟨w.heap.size, 0, none⟩ _ rfl HLD.out) rfl ⟨⟨cdd0, none, 0, false, rfl, OpsA.isNil _ _, HR.out, fun _ => rfl⟩, HBF.out⟩
                | true =>
                  obtain ⟨⟨q0, q1, q2⟩, ⟨g0, g1, g2⟩, hfin⟩ := cd_store HN8.out 0 0 none 0 0
                  have HLD := Lib.hid (load_cd _ _ 0 0 none 0 0 hfin)
                  have hbut := cd_but (w := v8) (B := w.heap.size) 0 0 none 0 0
                  have HBF := Lib.hid (HU8.out.trans (But.below hbut HU8.out.size (fun a e => Nat.le_of_eq (Eq.symm e))))
                  clear hfin hbut
                  go_wp2_with fail
                  exact bodyPost_ret (results_cell2 rfl _ _ _ ⟨w.heap.size, 0, none⟩ _ rfl HLD.out) rfl ⟨⟨cdd0, none, 0, false, rfl, OpsA.isNil _ _, HR.out, fun _ => rfl⟩, HBF.out⟩
              | true =>
                cases bl with
                | false =>
                  have HR := Lib.hid (rdg_bad (rcd_bad HS0.out HG.out HA2.out HG5.out (.inr (.inr ⟨x, HXM.out, fun (o : Opp) (hoo : o.Ok) => rop_bad HXS.out HGQ.out (.inr (HRL.out.2 rfl)) o hoo⟩))))
                  clear HV8 HO8 HO7 HBOX8 HQ58 HRL HSL8
                  obtain ⟨⟨q0, q1, q2⟩, ⟨g0, g1, g2⟩, hfin⟩ := cd_store HN8.out 0 0 none 0 0
                  have HLD := Lib.hid (load_cd _ _ 0 0 none 0 0 hfin)
                  have hbut := cd_but (w := v8) (B := w.heap.size) 0 0 none 0 0
                  have HBF := Lib.hid (HU8.out.trans (But.below hbut HU8.out.size (fun a e => Nat.le_of_eq (Eq.symm e))))
                  clear hfin hbut
                  go_wp2_with fail
                  exact bodyPost_ret (results_cell2 rfl _ _ _ ⟨w.heap.size, 0, none⟩ _ rfl HLD.out) rfl ⟨⟨cdd0, none, 0, false, rfl, OpsA.isNil _ _, HR.out, fun _ => rfl⟩, HBF.out⟩
                | true =>
                  obtain ⟨l4, rfl, hl1, hl2, -⟩ := HV8.out
                  obtain ⟨hl3, hl4⟩ := hl2 rfl
                  have hll : l4.length = 4 := by have := congrArg List.length hl3; simpa using this
                  obtain ⟨bI, oI, rfl, hgeI, hcell⟩ := hl1.row (by omega)
                  obtain ⟨n0, n1, n2, n3, rfl⟩ := len4 hll
                  have HZ0 : Hid (v8.drew.cell? ⟨bI, oI, none⟩ = some (.int .i64 n0)) := hcell 0 (by simp) 0 _ (by decide) rfl
                  have HZ1 : Hid (v8.drew.cell? ⟨bI, oI + 1, none⟩ = some (.int .i64 n1)) := hcell 1 (by simp) 0 _ (by decide) rfl
                  have HZ2 : Hid (v8.drew.cell? ⟨bI, oI + 2, none⟩ = some (.int .i64 n2)) := hcell 2 (by simp) 0 _ (by decide) rfl
                  have HZ3 : Hid (v8.drew.cell? ⟨bI, oI + 3, none⟩ = some (.int .i64 n3)) := hcell 3 (by simp) 0 _ (by decide) rfl
                  obtain ⟨hrl1, hrl2⟩ := HRL.out.1 rfl
                  have hopok := rop_ok HGQ.out hl3 hl4 hrl1 hrl2
                  have HOPS : Hid (Fa.opS ⟨n0, n1, n2, n3, li, q5⟩ = x) := hopok.1
                  have HOPO : Hid (⟨n0, n1, n2, n3, li, q5⟩ : Opp).Ok := hopok.2
                  obtain ⟨row, hrow⟩ : ∃ row, row = (Value.slice pz R.length cz).ownBlock := ⟨_, rfl⟩
                  have HRE := Lib.hid hrow
                  have HC1 : Hid (v8.drew.cell? ⟨v5.heap.size, 2, none⟩ = some (.slice pz R.length cz)) := by show _ = _; rw [show v8.drew.cell? ⟨v5.heap.size, 2, none⟩ = v8.cell? ⟨v5.heap.size, 2, none⟩ from rfl, Lib.cell_of_heap HBOX8.out]; rfl
                  have HF1 : Hid (v5.heap.size < v8.drew.heap.size ∧ some v5.heap.size ≠ row) := ⟨World.heap_lt HBOX8.out, by rw [hrow]; exact HO8.out.far (Nat.lt_succ_self _)⟩
                  have HROWX : Hid (∀ k, row = some k → k < wx.heap.size) := fun k e => (OwnL.ltO HO.out.own k (by rw [← hrow]; exact e)).2
                  have HF2 : Hid (bI < v8.drew.heap.size ∧ some bI ≠ row) := ⟨World.block_lt_of_cell? v8 _ HZ0.out, fun e => absurd (HROWX.out bI e.symm) (Nat.not_lt_of_le (Nat.le_trans HW6.out hgeI))⟩
                  have HF3 : Hid (bq < v8.drew.heap.size ∧ some bq ≠ row) := ⟨World.block_lt_of_cell? v8 _ HQ58.out, fun e => absurd (HROWX.out bq e.symm) (Nat.not_lt_of_le HGE.out)⟩
                  have HQ5 : Hid (v8.drew.cell? ⟨bq, oq + 5, none⟩ = some (.string q5)) := HQ58.out
                  have HRW : Hid (∀ k, row = some k → k < v8.drew.heap.size) := fun k e => (OwnL.ltO HO8.out.own k (by rw [← hrow]; exact e)).2
                  have HZL : Hid (R.length ≤ 1000000000) := len_small hj HRl.out HG5.out (HM.out a2 (by simp))
                  have HSW : Hid (v5.heap.size + 1 ≤ v8.drew.heap.size) := World.heap_lt HBOX8.out
                  have HP0 : Hid (OpsRow v8.drew (v5.heap.size + 1) (.slice pz R.length cz) R) := HO8.out.below (Below.refl _ _).drew
                  have HP1 : Hid (SlA encI (fun k => v5.heap.size + 1 ≤ k ∧ some k ≠ (Value.slice pz R.length cz).ownBlock) v8.drew (Value.slice pl li.length cl) li) := by
                    have h1 : SlA encI (fun k => w7.heap.size ≤ k) v8.drew (.slice pl li.length cl) li := HSL8.out.keep (Kp.below (Below.refl _ _).drew)
                    exact h1.mono (fun k hk => ⟨Nat.le_trans HLOW7.out hk, fun e => by rw [← hrow] at e; exact absurd (HROWX.out k e.symm) (Nat.not_lt_of_le (Nat.le_trans HW6.out (Nat.le_trans HW7.out hk)))⟩)
                  clear hll hl1 hl2 hl3 hl4 hgeI hcell hrl1 hrl2 hopok hrow HV8 HRL HSL8 HO7 HLOW7 HW7 HW6 HQ58 HSL
                  go_wp2_with fail
                  apply wp_region_one 20 22 LBo (fun x y => x.grownBy y row) (fun W => v8.drew.grownBy W row) (fun W => OpsRow W (v5.heap.size + 1) (.slice pz R.length cz) R ∧ SlA encI (fun k => v5.heap.size + 1 ≤ k ∧ some k ≠ (Value.slice pz R.length cz).ownBlock) W (Value.slice pl li.length cl) li) (fun _ _ => False)
                  case hIA => (intro x y hl h; exact h.trans (grown_of_below hl))
                  case hIC => (intro x y hl h; exact h.trans hl)
                  case hPA => (intro x y hl h; exact ⟨h.1.below hl, h.2.keep (Kp.below hl)⟩)
                  case hm => kernel_rfl
                  case hB => kernel_rfl
                  case h0 => exact World.grownBy.refl _ _
                  case h1 => exact ⟨HP0.out, HP1.out⟩
                  case hP => (rintro k a' W hf hd; exact hf.elim)
                  simp only [List.take_succ_cons, List.take_zero, List.drop_succ_cons, List.drop_zero]
                  apply wpOne_cons (t := tvIs _) (tvIs_good _ _)
                  case h1 => (intro W hI hl; clear hI hl; unfold oneAt; go_simp; exact one_isO (by decide))
                  intro _
                  rw [tvIs_f]
                  go_simp
                  apply wpOne_cons (t := tvIs _) (tvIs_good _ _)
                  case h1 => (intro W hI hl; have y1 := (grown_cell hI ⟨v5.heap.size, 2, none⟩ HF1.out.1 HF1.out.2).trans HC1.out; clear hI hl; unfold oneAt; go_simp; exact one_isO (by decide))
                  intro _
                  rw [tvIs_f]
                  go_simp
                  apply wpOne_cons (t := tvIs _) (tvIs_good _ _)
                  case h1 => (intro W hI hl; clear hI hl; unfold oneAt; go_simp; exact one_isO (by decide))
                  intro _
                  rw [tvIs_f]
                  go_simp
                  apply wpOne_cons (t := tvIs _) (tvIs_good _ _)
                  case h1 => (intro W hI hl; clear hI hl; unfold oneAt; go_simp; exact one_isO (by decide))
                  intro _
                  rw [tvIs_f]
                  go_simp
                  apply wpOne_cons (t := tvIs _) (tvIs_good _ _)
                  case h1 => (intro W hI hl; have y1 := (grown_cell hI ⟨bI, oI, none⟩ HF2.out.1 HF2.out.2).trans HZ0.out; clear hI hl; unfold oneAt; go_simp; exact one_isO (by decide))
                  intro _
                  rw [tvIs_f]
                  go_simp
                  apply wpOne_cons (t := tvIs _) (tvIs_good _ _)
                  case h1 => (intro W hI hl; clear hI hl; unfold oneAt; go_simp; exact one_isO (by decide))
                  intro _
                  rw [tvIs_f]
                  go_simp
                  apply wpOne_cons (t := tvIs _) (tvIs_good _ _)
                  case h1 => (intro W hI hl; clear hI hl; unfold oneAt; go_simp; exact one_isO (by decide))
                  intro _
                  rw [tvIs_f]
                  go_simp
                  apply wpOne_cons (t := tvIs _) (tvIs_good _ _)
                  case h1 => (intro W hI hl; have y1 := (grown_cell hI ⟨bI, oI + 1, none⟩ HF2.out.1 HF2.out.2).trans HZ1.out; clear hI hl; unfold oneAt; go_simp; exact one_isO (by decide))
                  intro _
                  rw [tvIs_f]
                  go_simp
                  apply wpOne_cons (t := tvIs _) (tvIs_good _ _)
                  case h1 => (intro W hI hl; clear hI hl; unfold oneAt; go_simp; exact one_isO (by decide))
                  intro _
                  rw [tvIs_f]
                  go_simp
                  apply wpOne_cons (t := tvIs _) (tvIs_good _ _)
                  case h1 => (intro W hI hl; clear hI hl; unfold oneAt; go_simp; exact one_isO (by decide))
                  intro _
                  rw [tvIs_f]
                  go_simp
                  apply wpOne_cons (t := tvIs _) (tvIs_good _ _)
                  case h1 => (intro W hI hl; have y1 := (grown_cell hI ⟨bI, oI + 2, none⟩ HF2.out.1 HF2.out.2).trans HZ2.out; clear hI hl; unfold oneAt; go_simp; exact one_isO (by decide))
                  intro _
                  rw [tvIs_f]
                  go_simp
                  apply wpOne_cons (t := tvIs _) (tvIs_good _ _)
                  case h1 => (intro W hI hl; clear hI hl; unfold oneAt; go_simp; exact one_isO (by decide))
                  intro _
                  rw [tvIs_f]
                  go_simp
                  apply wpOne_cons (t := tvIs _) (tvIs_good _ _)
                  case h1 => (intro W hI hl; clear hI hl; unfold oneAt; go_simp; exact one_isO (by decide))
                  intro _
                  rw [tvIs_f]
                  go_simp
                  apply wpOne_cons (t := tvIs _) (tvIs_good _ _)
                  case h1 => (intro W hI hl; have y1 := (grown_cell hI ⟨bI, oI + 3, none⟩ HF2.out.1 HF2.out.2).trans HZ3.out; clear hI hl; unfold oneAt; go_simp; exact one_isO (by decide))
                  intro _
                  rw [tvIs_f]
                  go_simp
                  apply wpOne_cons (t := tvIs _) (tvIs_good _ _)
                  case h1 => (intro W hI hl; clear hI hl; unfold oneAt; go_simp; exact one_isO (by decide))
                  intro _
                  rw [tvIs_f]
                  go_simp
                  apply wpOne_cons (t := tvIs _) (tvIs_good _ _)
                  case h1 => (intro W hI hl; clear hI hl; unfold oneAt; go_simp; exact one_isO (by decide))
                  intro _
                  rw [tvIs_f]
                  go_simp
                  apply wpOne_cons (t := tvIs _) (tvIs_good _ _)
                  case h1 => (intro W hI hl; clear hI hl; unfold oneAt; go_simp; exact one_isO (by decide))
                  intro _
                  rw [tvIs_f]
                  go_simp
                  apply wpOne_cons (t := tvIs _) (tvIs_good _ _)
                  case h1 => (intro W hI hl; have y1 := (grown_cell hI ⟨bq, oq + 5, none⟩ HF3.out.1 HF3.out.2).trans HQ5.out; clear hI hl; unfold oneAt; go_simp; exact one_isO (by decide))
                  intro _
                  rw [tvIs_f]
                  go_simp
                  apply wpOne_cons (t := tvIs _) (tvIs_good _ _)
                  case h1 => (intro W hI hl; clear hI hl; unfold oneAt; go_simp; exact one_isO (by decide))
                  intro _
                  rw [tvIs_f]
                  go_simp
                  apply wpOne_cons (t := tvOneO row ((⟨n0, n1, n2, n3, li, q5⟩, pl, cl) : Rop)) (tvOneO_good _ _ _ _)
                  case h1 => (intro W hI hl; have hrW : ∀ j, row = some j → j < W.heap.size := (fun j e => Nat.lt_of_lt_of_le (HRW.out j e) hI.size); clear hI hl; unfold oneAt; go_simp; exact tvOneO_mk (r := ((⟨n0, n1, n2, n3, li, q5⟩, pl, cl) : Rop)) (c := 20) (k := 19) hrW (by decide))
                  rintro ⟨sb2, q3⟩
                  rw [tvOneO_f]
                  go_simp
                  apply wpOne_cons (t := tvAppO (v5.heap.size + 1) R ((⟨n0, n1, n2, n3, li, q5⟩, pl, cl) : Rop)) (tvAppO_good _ _ _ _ _)
                  case h1 => (
                    intro W hI hl
                    have hP : OpsRow W (v5.heap.size + 1) (.slice pz R.length cz) R ∧ SlA encI (fun k => v5.heap.size + 1 ≤ k ∧ some k ≠ (Value.slice pz R.length cz).ownBlock) W (Value.slice pl li.length cl) li := hl.1 rfl
                    have hc := lean_ofO hl 19 (by kernel_rfl)
                    simp [upd, preAt] at hc
                    obtain ⟨v', w', hr, ho⟩ := tvAppO_mk (c := 20) (Pn := fun _ _ => False) hP.1 HRE.out hc.1 hP.2 HZL.out (Nat.le_trans HSW.out hI.size) 22
                    clear hI hl hP hc
                    exact oneAt_appendO rfl rfl rfl rfl hr ho)
                  rintro ⟨v', -⟩
                  rw [tvAppO_f]
                  go_simp
                  apply wpOne_cons (t := tvIs _) (tvIs_good _ _)
                  case h1 => (intro W hI hl; clear hI hl; unfold oneAt; go_simp; exact one_isO (by decide))
                  intro _
                  rw [tvIs_f]
                  go_simp
                  apply wpOne_nil (Ts := [])
                  intro w9 hI hF
                  have hfin := hF 20
                  simp [upd, preAt] at hfin
                  have hfin2 : OpsRow w9 (v5.heap.size + 1) v' (R ++ [((⟨n0, n1, n2, n3, li, q5⟩, pl, cl) : Rop)]) := hfin
                  obtain ⟨pv, nv, cv, rfl⟩ : ∃ pv nv cv, v' = .slice pv nv cv := by obtain ⟨pp, cc, h, -⟩ := hfin2.own.sla.shape; exact ⟨pp, _, cc, h⟩
                  have hbx9 := (hI.block v5.heap.size HF1.out.1 HF1.out.2).trans HBOX8.out
                  have s0 : w9.cell? ⟨v5.heap.size, 2, none⟩ = some (.slice pz R.length cz) := by rw [Lib.cell_of_heap hbx9]; rfl
                  have f0 : w9.frozen? ⟨v5.heap.size, 2, none⟩ = false := Lib.frozen_of_heap hbx9 2
                  have HBX9 : Hid ((w9.setCell ⟨v5.heap.size, 2, none⟩ (Value.slice pv nv cv)).heap[v5.heap.size]? = some (.cells #[.int .i64 m0, .int .i64 m1, (Value.slice pv nv cv)] 24 (0, 0))) := heap_setCell_s w9 v5.heap.size 2 _ _ (Value.slice pv nv cv) hbx9
                  have HOR := Lib.hid (OpsRow.set (i := 2) (u := (Value.slice pv nv cv)) hfin2 (Nat.lt_succ_self _))
                  have HBR := Lib.hid ((HB8.out.drew.grown hI (Nat.le_of_lt HF1.out.1) (fun k e => Nat.le_of_lt (OwnL.ltO HO8.out.own k (by rw [← HRE.out]; exact e)).1)).setCell (p := ⟨v5.heap.size, 2, none⟩) (Nat.le_refl _) (Value.slice pv nv cv))
                  have HM4 : Hid (((R ++ [((⟨n0, n1, n2, n3, li, q5⟩, pl, cl) : Rop)]).map (·.1)).map Fa.opS = L.take (j + 1)) := by
                    show _ = _
                    rw [List.map_append, List.map_append, HM3.out, List.take_succ_eq_append_getElem hlt, ← HX.out]
                    simp [HOPS.out]
                  have HOK4 : Hid (∀ q ∈ R ++ [((⟨n0, n1, n2, n3, li, q5⟩, pl, cl) : Rop)], q.1.Ok) := fun q hq => by
                    rcases List.mem_append.1 hq with h | h
                    · exact HOK3.out q h
                    · rw [List.mem_singleton] at h; rw [h]; exact HOPO.out
                  clear hI hF hfin hfin2 hbx9 HO8 HO HB8 HBOX8 HM3 HOK3
                  go_wp2_with fail
                  go_roundw
                  case rel => exact ⟨j + 1, (Value.slice pv nv cv), R ++ [((⟨n0, n1, n2, n3, li, q5⟩, pl, cl) : Rop)], by omega, by go_num, HBX9.out, HOR.out, HM4.out, HOK4.out, HBR.out⟩
                  case measure => simp [intOf]; omega
          · obtain rfl : j = L.length := by omega
            obtain ⟨LL, hLL⟩ : ∃ LL, LL = R.map (·.1) := ⟨_, rfl⟩
            have hlen : R.length = LL.length := by rw [hLL, List.length_map]
            obtain ⟨pz2, cz2, hv2, hops⟩ := HO.out.fin
            have hbox := HBOX.out
            have hm3 := HM3.out
            rw [← hLL] at hv2 hops hm3
            rw [hlen] at hbox hops
            rw [List.take_length] at hm3
            have hok3 : ∀ o ∈ LL, o.Ok := fun o ho => by rw [hLL] at ho; obtain ⟨r, hr, rfl⟩ := List.mem_map.1 ho; exact HOK3.out r hr
            have hrd := rcd_ok HG.out HNUM.out HOK.out HG5.out hm3 hok3
            have HR : Hid (Fa.Rdg Fa.cdS Cdd.Ok s ⟨m0, m1, LL⟩ true) := ⟨fun _ => hrd, fun e => (by cases e)⟩
            have c0 : wx.cell? ⟨v5.heap.size, 0, none⟩ = some (.int .i64 m0) := by rw [Lib.cell_of_heap hbox]; rfl
            have c1 : wx.cell? ⟨v5.heap.size, 1, none⟩ = some (.int .i64 m1) := by rw [Lib.cell_of_heap hbox]; rfl
            have c2 : wx.cell? ⟨v5.heap.size, 2, none⟩ = some (.slice pz LL.length cz) := by rw [Lib.cell_of_heap hbox]; rfl
            obtain ⟨⟨q0, q1, q2⟩, ⟨g0, g1, g2⟩, hfin⟩ := cd_store HNX.out m0 m1 pz LL.length cz
            have HLD := Lib.hid (load_cd _ _ m0 m1 pz LL.length cz hfin)
            have hbut := cd_but (w := wx) (B := w.heap.size) m0 m1 pz LL.length cz
            have HBF := Lib.hid (HUX.out.trans (But.below hbut HUX.out.size (fun a e => Nat.le_of_eq (Eq.symm e))))
            have HLF := Lib.hid ((hops.keep (Kp.but hbut (fun a ha e => by have e' : a.block = w.heap.size := e; have := HRES.out; have := HUX.out.size; omega))).mono (B := fun k => w.heap.size ≤ k) (fun k hk => Nat.le_trans (Nat.le_of_lt HRES.out) (Nat.le_of_succ_le hk)))
            clear hLL hlen hv2 hops hbox hm3 hok3 hrd hfin hbut HO HBOX HM3 HOK3 HSL HB HUX
            go_wp2_with fail
            exact bodyPost_ret (results_cell2 rfl _ _ _ ⟨w.heap.size, 0, none⟩ _ rfl HLD.out) rfl ⟨⟨⟨m0, m1, LL⟩, pz, cz, true, rfl, HLF.out, HR.out, fun e => (by cases e)⟩, HBF.out⟩
end Go.Proofs.YthikdkeanndidaaDoor
