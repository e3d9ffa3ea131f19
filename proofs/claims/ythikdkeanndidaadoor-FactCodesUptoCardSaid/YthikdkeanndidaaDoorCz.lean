/-
  THE WALK of the statement about codes.
-/
import Derived.Test.YthikdkeanndidaaDoorCz0
import Derived.Test.YthikdkeanndidaaDoorCw
import Derived.Test.YthikdkeanndidaaDoorCoA
import Derived.Test.YthikdkeanndidaaDoorCl
import Derived.Test.YthikdkeanndidaaDoorCk
import Derived.Test.YthikdkeanndidaaDoorCn
import Derived.Test.YthikdkeanndidaaDoorCq
import Derived.Test.YthikdkeanndidaaDoorCs
namespace Go.Proofs.YthikdkeanndidaaDoor
open Go Go.RowKit Go.Maps
set_option linter.unusedVariables false
set_option linter.unusedSimpArgs false
set_option maxRecDepth 1000000

theorem Dr.belowB {d : Dice} {s0 B : Nat} {w w' : World} (h : Dr d s0 w w') (hB : B ≤ s0) (hD : B ≤ d.D) : Below B w w' := ⟨h.os, h.tape, h.output, h.size, fun k hk => h.block k (by omega) (by omega)⟩
/-- a box that holds a code -/
def CdBox (w : World) (b : Nat) (p : Option Addr) (c : Nat) (x : Cdd) : Prop := w.heap[b]? = some (.cells #[.int .i64 x.params, .int .i64 x.regs, .slice p x.ops.length c] cdT (0, 0))
theorem CdBox.new (w : World) (p : Option Addr) (c : Nat) (x : Cdd) : CdBox (w.alloc (.cells #[.int .i64 x.params, .int .i64 x.regs, .slice p x.ops.length c] cdT)) w.heap.size p c x := heap_alloc_new w _
theorem CdBox.below {w w' : World} {b : Nat} {p : Option Addr} {c : Nat} {x : Cdd} (h : CdBox w b p c x) (hb : Below w.heap.size w w') : CdBox w' b p c x := (hb.block b (heap_lt h)).trans h
theorem CdBox.cells {w : World} {b : Nat} {p : Option Addr} {c : Nat} {x : Cdd} (h : CdBox w b p c x) : w.cell? ⟨b, 0, none⟩ = some (.int .i64 x.params) ∧ w.cell? ⟨b, 1, none⟩ = some (.int .i64 x.regs) ∧ w.cell? ⟨b, 2, none⟩ = some (.slice p x.ops.length c) := by
  unfold CdBox at h
  refine ⟨?_, ?_, ?_⟩ <;> rw [Lib.cell_of_heap h] <;> rfl
theorem Rolls.below {w w' : World} {p : Option Addr} {n : Nat} (h : Rolls w p n) (hb : Below w.heap.size w w') : Rolls w' p n := h.keep (But.of_below (M := fun _ => False) hb) (fun _ _ _ _ q => q)
theorem cdS_injG (x y : Cdd) (hx : x.Ok) (hy : y.Ok) (hz : (Fa.cdS x).size < 9223372036854775808) (h : Fa.cdS x = Fa.cdS y) : x = y := Fa.cdS_inj hx hy hz h
/-- two readings of one string -/
theorem rd_same {s : ByteArray} {x y : Cdd} {b c : Bool} (hs : s.size ≤ 1000000000) (h : Fa.Rdg Fa.cdS Cdd.Ok s x b) (k : Fa.Rdg Fa.cdS Cdd.Ok s y c) (h0 : b = false → x = cdd0) (k0 : c = false → y = cdd0) : b = c ∧ x = y := by
  obtain ⟨e1, e2⟩ := Fa.Rdg.same (by omega) cdS_injG h k
  refine ⟨e1, ?_⟩
  cases b
  · rw [h0 rfl, k0 e1.symm]
  · exact e2 rfl
theorem CdM.ops {A : Nat → Prop} {w : World} {p : Option Addr} {c : Nat} {x : Cdd} (h : CdM A w (.agg #[.int .i64 x.params, .int .i64 x.regs, .slice p x.ops.length c]) x) : OpsA A w (.slice p x.ops.length c) x.ops := by
  obtain ⟨p', c', e, R, h2, h3, h4, -⟩ := h
  injection e with e
  have e := congrArg Array.toList e
  simp only [List.cons.injEq, and_true, true_and] at e
  injection e with e1 _ e3
  subst e1; subst e3
  exact ⟨R, h2, h3, h4⟩
theorem rel_code {d : Dice} {W : World} {pr : Nat} (hd : DiceAt d W) (hp : pr ≤ 100) :
    AD d W W ∧ Calls Tryd.prog 9 #[.pointer (some ⟨d.D, 0, none⟩), .int .i64 (pr : Int)] W (fun e w'' => ∃ x, e = .returned ((tyCm d).f x) ∧ AD d W w'' ∧ (tyCm d).φ x w'') := by
  refine ⟨AD.refl' _ _, (dcode_any d pr W hd hp).mono ?_⟩
  rintro e w'' ⟨v, x, rfl, hc, hs, ht⟩
  have hc2 := hc.away (dcLow hd).1
  obtain ⟨p, c, rfl, -⟩ := id hc
  exact ⟨⟨(p, c, x), hs⟩, rfl, Dr.of_thrown ht (dcLow hd).1, hc2⟩
theorem rel_odd {d : Dice} {W : World} {p : Option Addr} {c : Nat} {x : Cdd} (hd : DiceAt d W) (hc : CdM (fun k => k ≠ d.D) W (.agg #[.int .i64 x.params, .int .i64 x.regs, .slice p x.ops.length c]) x) (hx : x.Small) :
    AD d W W ∧ Calls Tryd.prog 10 #[.pointer (some ⟨d.D, 0, none⟩), .agg #[.int .i64 x.params, .int .i64 x.regs, .slice p x.ops.length c]] W (fun e w'' => ∃ y, e = .returned ((tyCo d).f y) ∧ AD d W w'' ∧ (tyCo d).φ y w'') := by
  refine ⟨AD.refl' _ _, (odd_any d x _ _ W hd hc hx (fun k hk => hk)).mono ?_⟩
  rintro e w'' ⟨v, y, rfl, ⟨p', c', rfl, ho⟩, hs, ht⟩
  exact ⟨⟨(p', c', y), hs⟩, rfl, Dr.of_thrown ht (dcLow hd).1, ho⟩
theorem pos3 : 0 < 3 := by decide

set_option maxHeartbeats 8000000 in
theorem codes_walk (p tp : Option Addr) (c tn tcap : Nat) (x : Cdd) (s : ByteArray) (w : World) (hraw : OpsA (fun k => k < w.heap.size) w (.slice p x.ops.length c) x.ops) (hgd : x.ops.length ≤ 40 → x.Gd) (hnm : x.ops.length ≤ maxLen) (hr : Rolls w tp tn) (htm : tn ≤ maxLen)
    (htb : ∀ b o, tp = some ⟨b, o, none⟩ → b < w.heap.size) (hs : s.size ≤ maxLen) (hw : LaidW w) :
    Calls Tryd.prog 3 #[.agg #[.int .i64 x.params, .int .i64 x.regs, .slice p x.ops.length c], .slice tp tn tcap, .string s] w fun e w' => e = .returned (.bool true) ∧ Below w.heap.size w w' := by
  unfold maxLen at hnm htm hs
  have hb1 := below_box w (.cells #[.int .i64 x.params, .int .i64 x.regs, .slice p x.ops.length c] cdT)
  have hx1 := CdBox.new w p c x
  obtain ⟨w1, hw1⟩ : ∃ y, w.alloc (.cells #[.int .i64 x.params, .int .i64 x.regs, .slice p x.ops.length c] cdT) = y := ⟨_, rfl⟩
  rw [hw1] at hb1 hx1
  have hs1 : w1.heap.size = w.heap.size + 1 := by rw [← hw1, World.size_alloc]
  have HB1 := Lib.hid hb1
  have HX1 := Lib.hid hx1
  have HS1 := Lib.hid hs1
  have HW0 := Lib.hid hw
  have HW1 := Lib.hid (hw.below hb1)
  have HRAW := Lib.hid hraw
  have HR1 := Lib.hid (hr.below hb1)
  have HTB : Hid (∀ b o, tp = some ⟨b, o, none⟩ → b < w1.heap.size) := fun b o e => by have := htb b o e; omega
  have HGD := Lib.hid hgd
  obtain ⟨y0, y1, y2⟩ := hx1.cells
  clear hb1 hx1 hs1 hw hraw hr htb hgd
  by_cases h4 : 400 < tn
  · have HLN := Lib.hid (light_no tp tn tcap w1 h4 (by unfold maxLen; omega))
    go_enter Tryd.func3, Tryd.ntmps3
    go_wp2_with fail
    refine HLN.out.mono ?_
    rintro e w2 ⟨rfl, rfl⟩
    go_wp2_with fail
    refine (awake10_any _ HW1.out).mono ?_
    rintro e w3 ⟨rfl, hb⟩
    have HB3 := Lib.hid (HB1.out.trans (hb.mono HB1.out.size))
    clear hb
    go_wp2_with fail
    go_ret
    exact ⟨rfl, HB3.out⟩
  · have htn : tn ≤ 400 := by omega
    have HLY := Lib.hid (light_yes tp tn tcap w1 htn)
    by_cases h5 : 2000 < s.size ∨ 40 < x.ops.length
    · by_cases h6 : 2000 < s.size
      · have h6i : (2000 : Int) < (s.size : Int) := by omega
        clear h5
        go_enter Tryd.func3, Tryd.ntmps3
        go_wp2_with fail
        refine HLY.out.mono ?_
        rintro e w2 ⟨rfl, rfl⟩
        go_wp2_with fail
        refine (awake10_any _ HW1.out).mono ?_
        rintro e w3 ⟨rfl, hb⟩
        have HB3 := Lib.hid (HB1.out.trans (hb.mono HB1.out.size))
        clear hb
        go_wp2_with fail
        go_ret
        exact ⟨rfl, HB3.out⟩
      · have h6i : ¬ (2000 : Int) < (s.size : Int) := by omega
        have h7i : (40 : Int) < (x.ops.length : Int) := by omega
        clear h5
        go_enter Tryd.func3, Tryd.ntmps3
        go_wp2_with fail
        refine HLY.out.mono ?_
        rintro e w2 ⟨rfl, rfl⟩
        go_wp2_with fail
        refine (awake10_any _ HW1.out).mono ?_
        rintro e w3 ⟨rfl, hb⟩
        have HB3 := Lib.hid (HB1.out.trans (hb.mono HB1.out.size))
        clear hb
        go_wp2_with fail
        go_ret
        exact ⟨rfl, HB3.out⟩
    · have h6i : ¬ (2000 : Int) < (s.size : Int) := by omega
      have h7i : ¬ (40 : Int) < (x.ops.length : Int) := by omega
      have hs2k : s.size ≤ 2000 := by omega
      replace HGD := Lib.hid (HGD.out (by omega))
      have HRL := Lib.hid (rolled (cap := tcap) htn HR1.out HTB.out).1
      have hb2 := below_box w1 (.cells #[.slice tp tn tcap, .int .i64 0] 55)
      have hx2 := HX1.out.below hb2
      obtain ⟨w2, hw2⟩ : ∃ y, w1.alloc (.cells #[.slice tp tn tcap, .int .i64 0] 55) = y := ⟨_, rfl⟩
      rw [hw2] at HRL hb2 hx2
      have HB2 := Lib.hid (HB1.out.trans (hb2.mono HB1.out.size))
      have HX2 := Lib.hid hx2
      have hlow2 := dcLow HRL.out
      obtain ⟨d, hdd⟩ : ∃ d : Dice, d = ⟨w1.heap.size, tp, tn, tcap⟩ := ⟨_, rfl⟩
      have hdD : d.D = w1.heap.size := by rw [hdd]
      rw [← hdd] at HRL hlow2
      have HDD : Hid (w.heap.size < d.D ∧ d.D < w2.heap.size) := by have := HS1.out; rw [hdD]; exact ⟨by omega, by rw [← hw2, World.size_alloc]; omega⟩
      have HROLL := Lib.hid (roll_any tp tn tcap w1)
      rw [hw2, ← hdD] at HROLL
      clear hb2 hx2 hlow2 hdd hdD h5 h4 hw2 HR1 HTB
      go_enter Tryd.func3, Tryd.ntmps3
      go_wp2_with fail
      refine HLY.out.mono ?_
      rintro e w' ⟨rfl, rfl⟩
      go_wp2_with fail
      refine HROLL.out.mono ?_
      rintro e w' ⟨rfl, rfl⟩
      clear HLY HROLL y0 y1 y2 hw1
      go_wp2_with fail
      refine (next_any d 1048576 _ HRL.out (by omega) (by omega)).mono ?_
      rintro e w3 ⟨k0, hk0, rfl, ht3, -⟩
      have hdr3 := Dr.of_thrown ht3 HDD.out.2
      have HB3 := Lib.hid (HB2.out.trans (hdr3.belowB HB2.out.size (by have := HDD.out.1; omega)))
      have HX3 : Hid (CdBox w3 w.heap.size p c x) := (hdr3.block w.heap.size (heap_lt HX2.out) (by have := HDD.out.1; omega)).trans HX2.out
      have HG3 := Lib.hid ht3.good
      have hsz3 := hdr3.size
      have HD3 : Hid (w.heap.size < d.D ∧ d.D < w3.heap.size) := ⟨HDD.out.1, by have := HDD.out.2; omega⟩
      have HRW3 : Hid (OpsA (fun k => k ≠ d.D) w3 (.slice p x.ops.length c) x.ops) := (HRAW.out.keep (Kp.belowN HB3.out)).mono (fun k hk => by have := HDD.out.1; omega)
      have hk0b : (k0 : Int) < 1048576 := by omega
      clear ht3 hdr3 hsz3 HX2 HB2 HRL HRAW HX1 HDD
      have HGW : Hid (DiceAt d w3.drew) := (Dr.of_below (Below.refl _ _).drew (dcLow HG3.out)).good HG3.out
      have HXD : Hid (∀ W, AD d w3.drew W → CdBox W w.heap.size p c x) := fun W hW => (hW.block w.heap.size (by have := heap_lt HX3.out; exact this) (by have := HD3.out.1; omega)).trans HX3.out
      have HRD : Hid (∀ W, AD d w3.drew W → OpsA (fun k => k ≠ d.D) W (.slice p x.ops.length c) x.ops) := fun W hW => OpsA.ad (w := w3.drew) (HRW3.out.keep (Kp.below ((Below.refl _ _).drew))) hW
      go_wp2_with fail
      apply wp_region_rel (AD.refl' d) (AD.trans' d)
      case hm => kernel_rfl
      case hB => kernel_rfl
      apply wpRel_cons (t := tyIs _ _)
      case h1 => (intro W hl hd2; obtain ⟨y0, y1, y2⟩ := (HXD.out W hl).cells; clear hl hd2; unfold relAt; go_simp; exact rel_is (AD.refl' d))
      intro _
      rw [tyIs_f]
      go_simp
      apply wpRel_cons (t := tyIs _ _)
      case h1 => (intro W hl hd2; clear hl hd2; unfold relAt; go_simp; exact rel_is (AD.refl' d))
      intro _
      rw [tyIs_f]
      go_simp
      apply wpRel_cons (t := tyIs _ _)
      case h1 => (intro W hl hd2; clear hl hd2; unfold relAt; go_simp; exact rel_is (AD.refl' d))
      intro _
      rw [tyIs_f]
      go_simp
      apply wpRel_cons (t := tyNumA d 3 pos3)
      case h1 => (intro W hl hd2; have hg1 := hl.good HGW.out; clear hl hd2; unfold relAt; go_simp; exact rel_nextA hg1 pos3 (by omega))
      rintro ⟨k3, hk3⟩
      rw [tyNumA_f]
      go_simp
      apply wpRel_cons (t := tyCm d)
      case h1 => (intro W hl hd2; have hg1 := hl.good HGW.out; clear hl hd2; unfold relAt; go_simp; exact rel_code (pr := k3) hg1 (by omega))
      rintro ⟨⟨p4, c4, x4⟩, hx4⟩
      rw [tyCm_f]
      go_simp
      apply wpRel_cons (t := tyIs _ _)
      case h1 => (intro W hl hd2; clear hl hd2; unfold relAt; go_simp; exact rel_is (AD.refl' d))
      intro _
      rw [tyIs_f]
      go_simp
      apply wpRel_cons (t := tyIs _ _)
      case h1 => (intro W hl hd2; clear hl hd2; unfold relAt; go_simp; exact rel_is (AD.refl' d))
      intro _
      rw [tyIs_f]
      go_simp
      apply wpRel_cons (t := tyCm d)
      case h1 => (intro W hl hd2; have hg1 := hl.good HGW.out; clear hl hd2; unfold relAt; go_simp; exact rel_code (pr := 1) hg1 (by decide))
      rintro ⟨⟨p7, c7, x7⟩, hx7⟩
      rw [tyCm_f]
      go_simp
      apply wpRel_cons (t := tyCo d)
      case h1 => (intro W hl hd2; have hx := lean_ofR hd2 7 (by kernel_rfl); simp [upd, preAt] at hx; have hx1 : CdM (fun k => k ≠ d.D) W (.agg #[.int .i64 x7.params, .int .i64 x7.regs, .slice p7 x7.ops.length c7]) x7 := hx; have hg1 := hl.good HGW.out; clear hl hd2 hx; unfold relAt; go_simp; exact rel_odd hg1 hx1 hx7)
      rintro ⟨⟨p8, c8, x8⟩, hx8⟩
      rw [tyCo_f]
      go_simp
      apply wpRel_cons (t := tyThree d)
      case h1 => (intro W hl hd2; have ha := lean_ofR hd2 4 (by kernel_rfl); have hb := lean_ofR hd2 8 (by kernel_rfl); simp [upd, preAt] at ha hb; have ha1 : CdM (fun k => k ≠ d.D) W (.agg #[.int .i64 x4.params, .int .i64 x4.regs, .slice p4 x4.ops.length c4]) x4 := ha; have hb1 : OpsA (fun k => k ≠ d.D) W (.slice p8 x8.ops.length c8) x8.ops := hb; have hr := HRD.out W hl; have hg1 := hl.good HGW.out; clear hl hd2 ha hb; unfold relAt; go_simp; exact three_mk hg1 hr ha1.ops hb1 HGD.out hx4.odd.gd hx8.gd)
      rintro ⟨bL, -⟩
      rw [tyThree_f]
      go_simp
      apply wpRel_cons (t := tyIs _ _)
      case h1 => (intro W hl hd2; clear hl hd2; unfold relAt; go_simp; exact rel_is (AD.refl' d))
      intro _
      rw [tyIs_f]
      go_simp
      apply wpRel_cons (t := tyIs _ _)
      case h1 => (intro W hl hd2; clear hl hd2; unfold relAt; go_simp; exact rel_is (AD.refl' d))
      intro _
      rw [tyIs_f]
      go_simp
      apply wpRel_nil (Ts := [])
      intro w5 hl hF
      have hfin := hF 9
      simp [upd, preAt] at hfin
      have hfin2 : ∃ L, Three d bL w5 L := hfin
      obtain ⟨L, hL⟩ := hfin2
      have HL := Lib.hid hL
      have HB5 : Hid (Below w.heap.size w w5) := (HB3.out.trans ((Below.refl w.heap.size w3).drew)).trans (hl.belowB HB3.out.size (by have := HD3.out.1; omega))
      clear hl hF hfin hL HGW HXD HRD HRW3 HG3 HX3 HB3 HGD
      have HW5 := Lib.hid (HW0.out.below HB5.out)
      clear HW0 HW1
      have HLEN : Hid (L.length = 3) := HL.out.len
      go_wp2_with fail
      go_loopw [10, 11, 12, 13, 14, 15, 16, 17, 52] (fun _ _ _ _ _ _ _ _ i wr => ∃ k : Nat, k ≤ 3 ∧ i = .int .i64 k ∧ Hid (Below w5.heap.size w5 wr)) (fun _ _ _ _ _ _ _ _ i _ => 3 - (intOf i).toNat)
      case atStart => exact ⟨0, by omega, rfl, Below.refl _ _⟩
      case round =>
        obtain ⟨k, hk, rfl, HR⟩ := hrel
        obtain ⟨wx, rfl⟩ : ∃ x, x = wr := ⟨wr, rfl⟩
        have HBX := Lib.hid (HB5.out.trans (HR.out.mono HB5.out.size))
        have HWX := Lib.hid (HW5.out.below HR.out)
        by_cases hk3 : k < 3
        · have hk3i : (k : Int) < 3 := by omega
          have hkl : k < L.length := by rw [HLEN.out]; exact hk3
          obtain ⟨hoy, hgy⟩ := HL.out.each (L[k]'hkl) (List.getElem_mem hkl)
          have hat := HL.out.at_.below HR.out
          have y0 : wx.cell? ⟨bL, k * 3, none⟩ = some (.int .i64 (L[k]'hkl).2.2.params) := by have := hat.elem k hkl 0 (by decide) _ rfl; rw [Nat.zero_add] at this; exact this
          have y1 : wx.cell? ⟨bL, k * 3 + 1, none⟩ = some (.int .i64 (L[k]'hkl).2.2.regs) := by have := hat.elem k hkl 1 (by decide) _ rfl; rw [Nat.zero_add] at this; exact this
          have y2 : wx.cell? ⟨bL, k * 3 + 2, none⟩ = some (.slice (L[k]'hkl).1 (L[k]'hkl).2.2.ops.length (L[k]'hkl).2.1) := by have := hat.elem k hkl 2 (by decide) _ rfl; rw [Nat.zero_add] at this; exact this
          generalize L[k]'hkl = y at hoy hgy y0 y1 y2
          obtain ⟨q, qc, z⟩ := y
          simp only at hoy hgy y0 y1 y2
          have hoz := hoy.keep (Kp.below HR.out)
          -- the code under way
          have hbA := below_box wx (.cells #[.int .i64 z.params, .int .i64 z.regs, .slice q z.ops.length qc] cdT)
          have hxA := CdBox.new wx q qc z
          obtain ⟨wA, hwA⟩ : ∃ y, wx.alloc (.cells #[.int .i64 z.params, .int .i64 z.regs, .slice q z.ops.length qc] cdT) = y := ⟨_, rfl⟩
          rw [hwA] at hbA hxA
          have HOA := Lib.hid (hoz.keep (Kp.below hbA))
          have HXA := Lib.hid hxA
          have HRA := Lib.hid (HR.out.trans (hbA.mono HR.out.size))
          have HWA := Lib.hid (HWX.out.below hbA)
          obtain ⟨z0, z1, z2⟩ := hxA.cells
          obtain ⟨ps, hps⟩ : ∃ t, t = Fa.cdS z := ⟨_, rfl⟩
          have hpz : ps.size ≤ 100000000 := by rw [hps]; exact hgy.sz
          have HCA := Lib.hid (code_any _ z q qc wA HOA.out hgy.ok (by have := hgy.sz; omega) HWA.out)
          have HRC := Lib.hid (fun w' (hb : Below wA.heap.size wA w') => rcode_any _ z q qc w' (HOA.out.keep (Kp.below hb)) hgy.ok (by have := hgy.sz; omega))
          rw [← hps] at HCA HRC
          have HPS : Hid (Fa.Rdg Fa.cdS Cdd.Ok ps z true) := ⟨fun _ => ⟨hps.symm, hgy.ok⟩, fun e => by cases e⟩
          have hq : (ps.toList == ps.toList) = true := beq_self_eq_true _
          obtain ⟨t, htz, hch⟩ := changed_any ps (k0 : Int) (by omega) (by omega) (by omega)
          have htz2 : t.size ≤ 1000000000 := by omega
          have HCH := Lib.hid hch
          clear hoy hgy hat hoz hbA hxA hps hch htz
          go_wp2_with fail
          refine HCA.out.mono ?_
          rintro e wB ⟨rfl, hb⟩
          have HBB := Lib.hid hb
          have HXB := Lib.hid (HXA.out.below hb)
          have HWB := Lib.hid (HWA.out.below hb)
          clear hb HCA z0 z1 z2 hwA y0 y1 y2
          go_wp2_with fail
          refine (readCode_any ps wB (by omega) HWB.out).mono ?_
          rintro e wC ⟨⟨xC, pC, cC, bC, rfl, hoC, hgC, hfC⟩, hb⟩
          obtain ⟨rfl, rfl⟩ := rd_same (by omega) hgC HPS.out hfC (fun e => by cases e)
          have hbD := below_box wC (.cells #[.int .i64 xC.params, .int .i64 xC.regs, .slice pC xC.ops.length cC] cdT)
          have hxD := CdBox.new wC pC cC xC
          obtain ⟨wD, hwD⟩ : ∃ y, wC.alloc (.cells #[.int .i64 xC.params, .int .i64 xC.regs, .slice pC xC.ops.length cC] cdT) = y := ⟨_, rfl⟩
          rw [hwD] at hbD hxD
          have hb2 := bnext hb hbD
          have HBD := Lib.hid (bnext HBB.out hb2)
          have HXD := Lib.hid (HXB.out.below hb2)
          have HWD := Lib.hid (HWB.out.below hb2)
          have HX2D := Lib.hid hxD
          have HO2D := Lib.hid (hoC.keep (Kp.below hbD))
          clear hoC hgC hfC hb hbD hxD hb2 HBB HXB HWB
          go_wp2_with fail
          refine (HCH.out _).mono ?_
          rintro e wE ⟨rfl, hb⟩
          have HBE := Lib.hid (bnext HBD.out hb)
          have HXE := Lib.hid (HXD.out.below hb)
          have HWE := Lib.hid (HWD.out.below hb)
          have HX2E := Lib.hid (HX2D.out.below hb)
          have HO2E := Lib.hid (HO2D.out.keep (Kp.below hb))
          clear hb HBD HXD HWD HX2D HO2D hwD
          go_wp2_with fail
          refine (readCode_any t wE htz2 HWE.out).mono ?_
          rintro e wF ⟨⟨xF, pF, cF, bF, rfl, hoF, hgF, hfF⟩, hb⟩
          have hbG := below_box wF (.cells #[.int .i64 xF.params, .int .i64 xF.regs, .slice pF xF.ops.length cF] cdT)
          have hxG := CdBox.new wF pF cF xF
          obtain ⟨wG, hwG⟩ : ∃ y, wF.alloc (.cells #[.int .i64 xF.params, .int .i64 xF.regs, .slice pF xF.ops.length cF] cdT) = y := ⟨_, rfl⟩
          rw [hwG] at hbG hxG
          have hb2 := bnext hb hbG
          have HBG := Lib.hid (bnext HBE.out hb2)
          have HXG := Lib.hid (HXE.out.below hb2)
          have HWG := Lib.hid (HWE.out.below hb2)
          have HX2G := Lib.hid (HX2E.out.below hb2)
          have HO2G := Lib.hid (HO2E.out.keep (Kp.below hb2))
          have HX3G := Lib.hid hxG
          have HO3G := Lib.hid (hoF.keep (Kp.below hbG))
          have HGF := Lib.hid hgF
          have HFF := Lib.hid hfF
          clear hoF hgF hfF hb hbG hxG hb2 HBE HXE HWE HX2E HO2E
          go_wp2_with fail
          refine (HCH.out _).mono ?_
          rintro e wH ⟨rfl, hb⟩
          have HBH := Lib.hid (bnext HBG.out hb)
          have HXH := Lib.hid (HXG.out.below hb)
          have HWH := Lib.hid (HWG.out.below hb)
          have HX2H := Lib.hid (HX2G.out.below hb)
          have HO2H := Lib.hid (HO2G.out.keep (Kp.below hb))
          have HX3H := Lib.hid (HX3G.out.below hb)
          have HO3H := Lib.hid (HO3G.out.keep (Kp.below hb))
          clear hb HBG HXG HWG HX2G HO2G HX3G HO3G hwG
          go_wp2_with fail
          refine (rreadCode_any t wH htz2).mono ?_
          rintro e wI ⟨⟨xI, pI, cI, bI, rfl, hoI, hgI, hfI⟩, hb⟩
          obtain ⟨rfl, rfl⟩ := rd_same htz2 hgI HGF.out hfI HFF.out
          have hbJ := below_box wI (.cells #[.int .i64 xI.params, .int .i64 xI.regs, .slice pI xI.ops.length cI] cdT)
          have hxJ := CdBox.new wI pI cI xI
          obtain ⟨wJ, hwJ⟩ : ∃ y, wI.alloc (.cells #[.int .i64 xI.params, .int .i64 xI.regs, .slice pI xI.ops.length cI] cdT) = y := ⟨_, rfl⟩
          rw [hwJ] at hbJ hxJ
          have hb2 := bnext hb hbJ
          have HBJ := Lib.hid (bnext HBH.out hb2)
          have HXJ := Lib.hid (HXH.out.below hb2)
          have HX2J := Lib.hid (HX2H.out.below hb2)
          have HO2J := Lib.hid (HO2H.out.keep (Kp.below hb2))
          have HX3J := Lib.hid (HX3H.out.below hb2)
          have HO3J := Lib.hid (HO3H.out.keep (Kp.below hb2))
          have HX4J := Lib.hid hxJ
          have HO4J := Lib.hid (hoI.keep (Kp.below hbJ))
          obtain ⟨z0, z1, z2⟩ := HXJ.out.cells
          have hbb : (bI != bI) = false := by simp
          clear hoI hgI hfI hb hbJ hxJ hb2 HBH HXH HWH HX2H HO2H HX3H HO3H HGF HFF
          go_wp2_with fail
          refine (HRC.out wJ HBJ.out).mono ?_
          rintro e wK ⟨rfl, hb⟩
          have HBK := Lib.hid (bnext HBJ.out hb)
          have HXK := Lib.hid (HXJ.out.below hb)
          have HOK := Lib.hid (HOA.out.keep (Kp.below HBK.out))
          have HX2K := Lib.hid (HX2J.out.below hb)
          have HO2K := Lib.hid (HO2J.out.keep (Kp.below hb))
          have HX3K := Lib.hid (HX3J.out.below hb)
          have HO3K := Lib.hid (HO3J.out.keep (Kp.below hb))
          have HX4K := Lib.hid (HX4J.out.below hb)
          have HO4K := Lib.hid (HO4J.out.keep (Kp.below hb))
          clear hb HBJ HXJ HX2J HO2J HX3J HO3J HX4J HO4J z0 z1 z2 hwJ
          obtain ⟨z0, z1, z2⟩ := HXK.out.cells
          obtain ⟨s0, s1, s2⟩ := HX2K.out.cells
          go_wp2_with fail
          refine (sameCode_eq _ _ xC _ _ _ _ wK HO2K.out HOK.out).mono ?_
          rintro e wL ⟨rfl, hb⟩
          have HBL := Lib.hid (bnext HBK.out hb)
          have HX3L := Lib.hid (HX3K.out.below hb)
          have HO3L := Lib.hid (HO3K.out.keep (Kp.below hb))
          have HX4L := Lib.hid (HX4K.out.below hb)
          have HO4L := Lib.hid (HO4K.out.keep (Kp.below hb))
          clear hb HBK HXK HX2K HO2K HX3K HO3K HX4K HO4K HOK z0 z1 z2 s0 s1 s2
          obtain ⟨z0, z1, z2⟩ := HX3L.out.cells
          obtain ⟨s0, s1, s2⟩ := HX4L.out.cells
          go_wp2_with fail
          refine (sameCode_eq _ _ xI _ _ _ _ wL HO3L.out HO4L.out).mono ?_
          rintro e wM ⟨rfl, hb⟩
          have HRM := Lib.hid (HRA.out.trans ((bnext HBL.out hb).mono HRA.out.size))
          clear hb HBL HX3L HO3L HX4L HO4L z0 z1 z2 s0 s1 s2
          go_wp2_with fail
          go_roundw
          case rel => exact ⟨k + 1, by omega, by go_num, HRM.out⟩
          case measure => simp [intOf]; omega
        · obtain rfl : k = 3 := by omega
          go_wp2_with fail
          refine (readCode_any s wx (by omega) HWX.out).mono ?_
          rintro e wF ⟨⟨xF, pF, cF, bF, rfl, hoF, hgF, hfF⟩, hb⟩
          have hbG := below_box wF (.cells #[.int .i64 xF.params, .int .i64 xF.regs, .slice pF xF.ops.length cF] cdT)
          have hxG := CdBox.new wF pF cF xF
          obtain ⟨wG, hwG⟩ : ∃ y, wF.alloc (.cells #[.int .i64 xF.params, .int .i64 xF.regs, .slice pF xF.ops.length cF] cdT) = y := ⟨_, rfl⟩
          rw [hwG] at hbG hxG
          have hb2 := bnext hb hbG
          have HBG := Lib.hid (HBX.out.trans (hb2.mono HBX.out.size))
          have HWG := Lib.hid (HWX.out.below hb2)
          have HX3G := Lib.hid hxG
          have HO3G := Lib.hid (hoF.keep (Kp.below hbG))
          have HGF := Lib.hid hgF
          have HFF := Lib.hid hfF
          clear hoF hgF hfF hb hbG hxG hb2
          go_wp2_with fail
          refine (rreadCode_any s wG (by omega)).mono ?_
          rintro e wI ⟨⟨xI, pI, cI, bI, rfl, hoI, hgI, hfI⟩, hb⟩
          obtain ⟨rfl, rfl⟩ := rd_same (by omega) hgI HGF.out hfI HFF.out
          have hbJ := below_box wI (.cells #[.int .i64 xI.params, .int .i64 xI.regs, .slice pI xI.ops.length cI] cdT)
          have hxJ := CdBox.new wI pI cI xI
          obtain ⟨wJ, hwJ⟩ : ∃ y, wI.alloc (.cells #[.int .i64 xI.params, .int .i64 xI.regs, .slice pI xI.ops.length cI] cdT) = y := ⟨_, rfl⟩
          rw [hwJ] at hbJ hxJ
          have hb2 := bnext hb hbJ
          have HBJ := Lib.hid (HBG.out.trans (hb2.mono HBG.out.size))
          have HWJ := Lib.hid (HWG.out.below hb2)
          have HX3J := Lib.hid (HX3G.out.below hb2)
          have HO3J := Lib.hid (HO3G.out.keep (Kp.below hb2))
          have HX4J := Lib.hid hxJ
          have HO4J := Lib.hid (hoI.keep (Kp.below hbJ))
          have hbb : (bI == bI) = true := by simp
          clear hoI hgI hfI hb hbJ hxJ hb2 HBG HWG HX3G HO3G HGF HFF hwG
          go_wp2_with fail
          refine (awake10_any wJ HWJ.out).mono ?_
          rintro e wK ⟨rfl, hb⟩
          have HBK := Lib.hid (HBJ.out.trans (hb.mono HBJ.out.size))
          have HO3K := Lib.hid (HO3J.out.keep (Kp.below hb))
          have HO4K := Lib.hid (HO4J.out.keep (Kp.below hb))
          obtain ⟨z0, z1, z2⟩ := (HX3J.out.below hb).cells
          obtain ⟨s0, s1, s2⟩ := (HX4J.out.below hb).cells
          clear hb HBJ HX3J HO3J HX4J HO4J hwJ
          go_wp2_with fail
          refine (sameCode_eq _ _ xI _ _ _ _ wK HO3K.out HO4K.out).mono ?_
          rintro e wM ⟨rfl, hb⟩
          have HBM := Lib.hid (HBK.out.trans (hb.mono HBK.out.size))
          clear hb HBK HO3K HO4K z0 z1 z2 s0 s1 s2
          go_wp2_with fail
          go_ret
          exact ⟨rfl, HBM.out⟩
end Go.Proofs.YthikdkeanndidaaDoor
