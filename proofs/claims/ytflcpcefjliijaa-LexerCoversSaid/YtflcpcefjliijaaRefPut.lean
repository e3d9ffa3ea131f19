/-
  CONTRACTS: the reference's Put and Drop.
-/
import Derived.Test.YtflcpcefjliijaaRefBase
import Derived.Test.YtflcpcefjliijaaPutPlain
namespace Go.Proofs.Ytflcpcefjliijaa
open Go.RowKit
set_option linter.unusedVariables false


/-- what holds at each round of the reference's loops: the list so far, and what is read -/
structure RS (BASE : Nat) (W0 W : World) (out : Value) (cur : List Src) (b o B : Nat) (na ta nm tx : ByteArray) : Prop where
  own : OwnS W BASE out cur
  bel : Below BASE W0 W
  siz : BASE ≤ W.heap.size
  x0 : W.cell? ⟨b, o, none⟩ = some (.string na)
  x1 : W.cell? ⟨b, o + 1, none⟩ = some (.string ta)
  s0 : W.cell? ⟨B, 0, none⟩ = some (.string nm)
  s1 : W.cell? ⟨B, 1, none⟩ = some (.string tx)
theorem RS.drewN {BASE : Nat} {W0 W : World} {out : Value} {cur : List Src} {b o B : Nat} {na ta nm tx : ByteArray} (h : RS BASE W0 W out cur b o B na ta nm tx) (n : Nat) : RS BASE W0 (W.drewN n) out cur b o B na ta nm tx :=
  ⟨h.own, below_drewN h.bel n, h.siz, h.x0, h.x1, h.s0, h.s1⟩
theorem RS.below {BASE : Nat} {W0 W W' : World} {out out' : Value} {cur cur' : List Src} {b o B : Nat} {na ta nm tx : ByteArray} (h : RS BASE W0 W out cur b o B na ta nm tx) (hb : Below BASE W W') (hown : OwnS W' BASE out' cur') (hB : B < BASE) (hbb : b < BASE) : RS BASE W0 W' out' cur' b o B na ta nm tx :=
  ⟨hown, h.bel.trans hb, Nat.le_trans h.siz hb.size, by rw [hb.cell (p := ⟨b, o, none⟩) hbb]; exact h.x0, by rw [hb.cell (p := ⟨b, o + 1, none⟩) hbb]; exact h.x1, by rw [hb.cell (p := ⟨B, 0, none⟩) hB]; exact h.s0, by rw [hb.cell (p := ⟨B, 1, none⟩) hB]; exact h.s1⟩
theorem RS.alloc {BASE : Nat} {W0 W : World} {out : Value} {cur : List Src} {b o B : Nat} {na ta nm tx : ByteArray} (h : RS BASE W0 W out cur b o B na ta nm tx) (hB : B < BASE) (hbb : b < BASE) (ob : Obj) : RS BASE W0 (W.alloc ob) out cur b o B na ta nm tx :=
  h.below ((Below.refl _ _).alloc h.siz ob) (h.own.alloc ob) hB hbb

set_option maxHeartbeats 2000000 in
theorem refPut_any (p : Option Addr) (n cap : Nat) (L : List Src) (nm tx : ByteArray) (w : World) (hsz : n ≤ 400000000) (hl : SrcIs w (.slice p n cap) L) (hpn : p = none → cap = 0) (hf : Fits L) (f1 : nm.size ≤ maxLen) (f2 : tx.size ≤ maxLen) :
    Calls Try.prog 38 #[.slice p n cap, .agg #[.string nm, .string tx]] w (ListAnd w (putR L nm tx).1 (putR L nm tx).2) := by
  have hst : Stays (w.alloc (.cells #[.string nm, .string tx] 35)) p n cap w.heap.size L nm tx := ⟨hl.below (below_box w _), by simp [go_sem], by simp [go_sem]⟩
  have HS0 := Lib.hid hst
  have HB0 := Lib.hid (below_box w (.cells #[.string nm, .string tx] 35))
  have HC := Lib.hid (refCheck_any p n cap L _ (by omega) hst.list hf)
  obtain ⟨hn, hc1, hc2, _⟩ := hl.lies
  have Hn := Lib.hid hn
  have HPN := Lib.hid hpn
  clear hst hl hn hpn
  unfold maxLen at f2
  by_cases hv : validB L = true
  · have hck : chk L = 0 := by unfold chk; rw [if_pos hv]
    have HCK := Lib.hid hck
    clear hck
    have ENTERED : True := trivial
    by_cases hpm : permB (nm, tx) = true
    · have hR : putR L nm tx = (putL L nm tx, 0) := by unfold putR; rw [if_pos hv, if_pos hpm]
      have HR := Lib.hid hR
      have HEND := Lib.hid (rpEnd_eq L hv nm tx)
      have hnm : nameB nm = true := by unfold permB at hpm; simp only [Bool.and_eq_true] at hpm; exact hpm.1
      have hts : tx.size ≤ 20000 := by unfold permB at hpm; simp only [Bool.and_eq_true, decide_eq_true_eq] at hpm; exact hpm.2
      clear hR hpm hv
      go_enter Try.func38, Try.ntmps38
      go_wp2_with fail
      refine HC.out.mono ?_
      rintro e w1 ⟨rfl, hb⟩
      rw [HCK.out]
      have hs1 := HS0.out.below hb
      have HB1 := Lib.hid (bnext HB0.out hb)
      have HS1 := Lib.hid hs1
      have hB : w.heap.size < w1.heap.size := World.block_lt_of_cell? w1 _ hs1.name
      have g1 := hs1.name
      have g2 := hs1.text
      clear hs1 hb
      go_wp2_with fail
      refine (named_any _ _ f1).mono ?_
      rintro e w1 ⟨rfl, rfl⟩
      go_wp2_with fail
      clear g1 g2
      -- the loop
      obtain ⟨hn, hc1, hc2, hlies⟩ := HS1.out.list.lies
      have HLIES := Lib.hid hlies
      clear hlies hn
      generalize hBA : w1.heap.size = BASE at *
      have HBA := Lib.hid hBA
      clear hBA
      go_loopw [6, 7, 8] (fun out d i wr => ∃ j : Nat, j ≤ n ∧ i = .int .i64 j ∧ d = .bool (rp L nm tx j).2 ∧ Hid (OwnS wr BASE out (rp L nm tx j).1) ∧ Hid (Below BASE w1 wr)) (fun _ _ i _ => n - (intOf i).toNat)
      case atStart => exact ⟨0, Nat.zero_le _, rfl, rfl, OwnS.isNil _ _, Below.refl _ _⟩
      case round =>
        obtain ⟨j, hj, rfl, rfl, ho, hb⟩ := hrel
        by_cases hlt : j < n
        · obtain ⟨b, off, rfl, hcells0⟩ := HLIES.out (by omega)
          have hjl : j < L.length := by have := HS1.out.list.lies.1; omega
          have hbb : b < BASE := by rw [← HBA.out]; exact World.block_lt_of_cell? w1 _ (hcells0.name j hjl)
          have hx0 := hcells0.name j hjl
          have hx1 := hcells0.text j hjl
          have hi1 : (j : Int) < (n : Int) := by omega
          have hstep : rp L nm tx (j + 1) = rpStep nm tx (L.getD j empty2) (rp L nm tx j).1 (rp L nm tx j).2 := rfl
          have hlen := rp_length L nm tx j
          generalize L.getD j empty2 = x at *
          obtain ⟨na, ta⟩ := x
          have hrs : RS BASE w1 wr u6 (rp L nm tx j).1 b (off + j * 2) w.heap.size na ta nm tx :=
            ⟨ho.out, hb.out, by have := hb.out.size; rw [HBA.out] at this; exact this, by rw [hb.out.cell (p := ⟨b, off + j * 2, none⟩) hbb]; exact hx0, by rw [hb.out.cell (p := ⟨b, off + j * 2 + 1, none⟩) hbb]; exact hx1, by rw [hb.out.cell (p := ⟨w.heap.size, 0, none⟩) hB]; exact HS1.out.name, by rw [hb.out.cell (p := ⟨w.heap.size, 1, none⟩) hB]; exact HS1.out.text⟩
          have RS0 := Lib.hid hrs
          have HLEN : Hid ((rp L nm tx j).1.length + [(nm, tx)].length ≤ 1800000000) := by show _ ≤ _; simp; omega
          have HLEN1 : Hid ((rp L nm tx j).1.length + [(na, ta)].length ≤ 1800000000) := by show _ ≤ _; simp; omega
          have HLEN2 : Hid (((rp L nm tx j).1 ++ [(nm, tx)]).length + [(na, ta)].length ≤ 1800000000) := by show _ ≤ _; simp; omega
          clear hcells0 hx0 hx1 hjl hrs ho hb hlen
          generalize (rp L nm tx j).1 = cur at *
          generalize hd : (rp L nm tx j).2 = d at *
          have y0 := RS0.out.x0
          have y1 := RS0.out.x1
          have z0 := RS0.out.s0
          have z1 := RS0.out.s1
          have HSTEP := Lib.hid hstep
          clear hstep hd
          by_cases hne : (na.toList == nm.toList) = true
          · have NE : Hid (isNamed nm (na, ta) = true) := hne
            cases d
            · -- not done
              by_cases hlo : Op.bytesLess na.toList nm.toList = true
              · have AL : Hid (atLeast nm (na, ta) = false) := by show atLeast nm (na, ta) = false; unfold atLeast; rw [show Op.bytesLess (na, ta).1.toList nm.toList = true from hlo]; rfl
                go_wp2_with fail
                go_quiet (fail)
                have RS1 := Lib.hid (RS0.out.drewN nq)
                generalize wr.drewN nq = wq at *
                clear y0 y1 z0 z1 RS0
                have y0 := RS1.out.x0
                have y1 := RS1.out.x1
                have z0 := RS1.out.s0
                have z1 := RS1.out.s1
                go_wp2_with fail
                go_quiet (fail)
                have RS2 := Lib.hid (RS1.out.drewN nq)
                generalize wq.drewN nq = wp at *
                clear y0 y1 z0 z1 RS1
                have y0 := RS2.out.x0
                have y1 := RS2.out.x1
                have z0 := RS2.out.s0
                have z1 := RS2.out.s1
                go_wp2
                go_roundw
                case rel => exact ⟨j + 1, by omega, by go_num, by rw [HSTEP.out]; unfold rpStep; rw [NE.out]; (try rw [AL.out]); (try simp), by show OwnS _ _ _ _; rw [HSTEP.out]; unfold rpStep; rw [NE.out]; (try rw [AL.out]); simpa using RS2.out.own, RS2.out.bel⟩
                case measure => simp [intOf]; omega
              · have hlo' : Op.bytesLess na.toList nm.toList = false := by simpa using hlo
                have AL : Hid (atLeast nm (na, ta) = true) := by show atLeast nm (na, ta) = true; unfold atLeast; rw [show Op.bytesLess (na, ta).1.toList nm.toList = false from hlo']; rfl
                clear hlo
                go_wp2_with fail
                go_quiet (fail)
                have RS1 := Lib.hid (RS0.out.drewN nq)
                generalize wr.drewN nq = wq at *
                clear y0 y1 z0 z1 RS0
                have y0 := RS1.out.x0
                have y1 := RS1.out.x1
                have z0 := RS1.out.s0
                have z1 := RS1.out.s1
                clear y0 y1
                have y0 := RS1.out.x0
                have y1 := RS1.out.x1
                go_wp2_with (at_builtin; go_must (refine wpList_appendS (o := ⟨some 47, _, _, _, _, _⟩) rfl (.tmp 44) (.tmp 46) rfl BASE _ _ rfl (RS1.out.alloc hB hbb _).own _ _ _ [(nm, tx)] rfl rfl (lies_one (box_name _ nm tx _) (box_text _ nm tx _)) (fun h => by cases h) HLEN.out (RS1.out.alloc hB hbb _).siz ?_; intro out2 w2 hown2 hb2; have RS2 := Lib.hid ((RS1.out.alloc hB hbb _).below hb2 hown2 hB hbb); clear hown2 hb2; have y0 := RS2.out.x0; have y1 := RS2.out.x1; have z0 := RS2.out.s0; have z1 := RS2.out.s1))
                go_quiet (fail)
                have RS3 := Lib.hid (RS2.out.drewN nq)
                generalize w2.drewN nq = wp at *
                clear y0 y1 z0 z1 RS2
                have y0 := RS3.out.x0
                have y1 := RS3.out.x1
                have z0 := RS3.out.s0
                have z1 := RS3.out.s1
                go_wp2
                go_roundw
                case rel => exact ⟨j + 1, by omega, by go_num, by rw [HSTEP.out]; unfold rpStep; rw [NE.out]; (try rw [AL.out]); (try simp), by show OwnS _ _ _ _; rw [HSTEP.out]; unfold rpStep; rw [NE.out]; (try rw [AL.out]); simpa using RS3.out.own, RS3.out.bel⟩
                case measure => simp [intOf]; omega
            · -- done
              go_wp2_with fail
              go_quiet (fail)
              have RS1 := Lib.hid (RS0.out.drewN nq)
              generalize wr.drewN nq = wq at *
              clear y0 y1 z0 z1 RS0
              have y0 := RS1.out.x0
              have y1 := RS1.out.x1
              have z0 := RS1.out.s0
              have z1 := RS1.out.s1
              go_wp2_with fail
              go_quiet (fail)
              have RS2 := Lib.hid (RS1.out.drewN nq)
              generalize wq.drewN nq = wp at *
              clear y0 y1 z0 z1 RS1
              have y0 := RS2.out.x0
              have y1 := RS2.out.x1
              have z0 := RS2.out.s0
              have z1 := RS2.out.s1
              go_wp2
              go_roundw
              case rel => exact ⟨j + 1, by omega, by go_num, by rw [HSTEP.out]; unfold rpStep; rw [NE.out]; (try simp), by show OwnS _ _ _ _; rw [HSTEP.out]; unfold rpStep; rw [NE.out]; simpa using RS2.out.own, RS2.out.bel⟩
              case measure => simp [intOf]; omega
          · have hne' : (na.toList == nm.toList) = false := by simpa using hne
            have NE : Hid (isNamed nm (na, ta) = false) := hne'
            clear hne
            cases d
            · -- not done
              by_cases hlo : Op.bytesLess na.toList nm.toList = true
              · have AL : Hid (atLeast nm (na, ta) = false) := by show atLeast nm (na, ta) = false; unfold atLeast; rw [show Op.bytesLess (na, ta).1.toList nm.toList = true from hlo]; rfl
                go_wp2_with fail
                go_quiet (fail)
                have RS1 := Lib.hid (RS0.out.drewN nq)
                generalize wr.drewN nq = wq at *
                clear y0 y1 z0 z1 RS0
                have y0 := RS1.out.x0
                have y1 := RS1.out.x1
                have z0 := RS1.out.s0
                have z1 := RS1.out.s1
                go_wp2_with fail
                go_quiet (fail)
                have RS2 := Lib.hid (RS1.out.drewN nq)
                generalize wq.drewN nq = wp at *
                clear y0 y1 z0 z1 RS1
                have y0 := RS2.out.x0
                have y1 := RS2.out.x1
                have z0 := RS2.out.s0
                have z1 := RS2.out.s1
                go_wp2_with (at_builtin; go_must (refine wpList_appendS (o := ⟨some 62, _, _, _, _, _⟩) rfl (.tmp 56) (.tmp 61) rfl BASE _ _ rfl (RS2.out.alloc hB hbb _).own _ _ _ [(na, ta)] rfl rfl (lies_one (box_name _ na ta _) (box_text _ na ta _)) (fun h => by cases h) HLEN1.out (RS2.out.alloc hB hbb _).siz ?_; intro out2 w2 hown2 hb2; have RS3 := Lib.hid ((RS2.out.alloc hB hbb _).below hb2 hown2 hB hbb); clear hown2 hb2; have y0 := RS3.out.x0; have y1 := RS3.out.x1; have z0 := RS3.out.s0; have z1 := RS3.out.s1))
                go_roundw
                case rel => exact ⟨j + 1, by omega, by go_num, by rw [HSTEP.out]; unfold rpStep; rw [NE.out]; (try rw [AL.out]); (try simp), by show OwnS _ _ _ _; rw [HSTEP.out]; unfold rpStep; rw [NE.out]; (try rw [AL.out]); simpa using RS3.out.own, RS3.out.bel⟩
                case measure => simp [intOf]; omega
              · have hlo' : Op.bytesLess na.toList nm.toList = false := by simpa using hlo
                have AL : Hid (atLeast nm (na, ta) = true) := by show atLeast nm (na, ta) = true; unfold atLeast; rw [show Op.bytesLess (na, ta).1.toList nm.toList = false from hlo']; rfl
                clear hlo
                go_wp2_with fail
                go_quiet (fail)
                have RS1 := Lib.hid (RS0.out.drewN nq)
                generalize wr.drewN nq = wq at *
                clear y0 y1 z0 z1 RS0
                have y0 := RS1.out.x0
                have y1 := RS1.out.x1
                have z0 := RS1.out.s0
                have z1 := RS1.out.s1
                clear y0 y1
                have y0 := RS1.out.x0
                have y1 := RS1.out.x1
                go_wp2_with (at_builtin; go_must (refine wpList_appendS (o := ⟨some 47, _, _, _, _, _⟩) rfl (.tmp 44) (.tmp 46) rfl BASE _ _ rfl (RS1.out.alloc hB hbb _).own _ _ _ [(nm, tx)] rfl rfl (lies_one (box_name _ nm tx _) (box_text _ nm tx _)) (fun h => by cases h) HLEN.out (RS1.out.alloc hB hbb _).siz ?_; intro out2 w2 hown2 hb2; have RS2 := Lib.hid ((RS1.out.alloc hB hbb _).below hb2 hown2 hB hbb); clear hown2 hb2; have y0 := RS2.out.x0; have y1 := RS2.out.x1; have z0 := RS2.out.s0; have z1 := RS2.out.s1))
                go_quiet (fail)
                have RS3 := Lib.hid (RS2.out.drewN nq)
                generalize w2.drewN nq = wp at *
                clear y0 y1 z0 z1 RS2
                have y0 := RS3.out.x0
                have y1 := RS3.out.x1
                have z0 := RS3.out.s0
                have z1 := RS3.out.s1
                go_wp2_with (at_builtin; go_must (refine wpList_appendS (o := ⟨some 62, _, _, _, _, _⟩) rfl (.tmp 56) (.tmp 61) rfl BASE _ _ rfl (RS3.out.alloc hB hbb _).own _ _ _ [(na, ta)] rfl rfl (lies_one (box_name _ na ta _) (box_text _ na ta _)) (fun h => by cases h) HLEN2.out (RS3.out.alloc hB hbb _).siz ?_; intro out3 w4 hown2 hb2; have RS4 := Lib.hid ((RS3.out.alloc hB hbb _).below hb2 hown2 hB hbb); clear hown2 hb2; have y0 := RS4.out.x0; have y1 := RS4.out.x1; have z0 := RS4.out.s0; have z1 := RS4.out.s1))
                go_roundw
                case rel => exact ⟨j + 1, by omega, by go_num, by rw [HSTEP.out]; unfold rpStep; rw [NE.out]; (try rw [AL.out]); (try simp), by show OwnS _ _ _ _; rw [HSTEP.out]; unfold rpStep; rw [NE.out]; (try rw [AL.out]); simpa using RS4.out.own, RS4.out.bel⟩
                case measure => simp [intOf]; omega
            · -- done
              go_wp2_with fail
              go_quiet (fail)
              have RS1 := Lib.hid (RS0.out.drewN nq)
              generalize wr.drewN nq = wq at *
              clear y0 y1 z0 z1 RS0
              have y0 := RS1.out.x0
              have y1 := RS1.out.x1
              have z0 := RS1.out.s0
              have z1 := RS1.out.s1
              go_wp2_with fail
              go_quiet (fail)
              have RS2 := Lib.hid (RS1.out.drewN nq)
              generalize wq.drewN nq = wp at *
              clear y0 y1 z0 z1 RS1
              have y0 := RS2.out.x0
              have y1 := RS2.out.x1
              have z0 := RS2.out.s0
              have z1 := RS2.out.s1
              go_wp2_with (at_builtin; go_must (refine wpList_appendS (o := ⟨some 62, _, _, _, _, _⟩) rfl (.tmp 56) (.tmp 61) rfl BASE _ _ rfl (RS2.out.alloc hB hbb _).own _ _ _ [(na, ta)] rfl rfl (lies_one (box_name _ na ta _) (box_text _ na ta _)) (fun h => by cases h) HLEN1.out (RS2.out.alloc hB hbb _).siz ?_; intro out2 w2 hown2 hb2; have RS3 := Lib.hid ((RS2.out.alloc hB hbb _).below hb2 hown2 hB hbb); clear hown2 hb2; have y0 := RS3.out.x0; have y1 := RS3.out.x1; have z0 := RS3.out.s0; have z1 := RS3.out.s1))
              go_roundw
              case rel => exact ⟨j + 1, by omega, by go_num, by rw [HSTEP.out]; unfold rpStep; rw [NE.out]; (try simp), by show OwnS _ _ _ _; rw [HSTEP.out]; unfold rpStep; rw [NE.out]; simpa using RS3.out.own, RS3.out.bel⟩
              case measure => simp [intOf]; omega
        · have hje : j = n := by omega
          have hend : Hid ((rp L nm tx L.length).1 ++ (if (rp L nm tx L.length).2 = true then [] else [(nm, tx)]) = putL L nm tx) := HEND.out
          have hjl : j = L.length := by have := HS1.out.list.lies.1; omega
          rw [← hjl] at hend
          have hlen := rp_length L nm tx j
          have HLEN : Hid ((rp L nm tx j).1.length + [(nm, tx)].length ≤ 1800000000) := by show _ ≤ _; simp; omega
          clear hje hjl
          have hB1 : Hid (Below w.heap.size w w1) := HB1
          have hz0 : wr.cell? ⟨w.heap.size, 0, none⟩ = some (.string nm) := by rw [hb.out.cell (p := ⟨w.heap.size, 0, none⟩) hB]; exact HS1.out.name
          have hz1 : wr.cell? ⟨w.heap.size, 1, none⟩ = some (.string tx) := by rw [hb.out.cell (p := ⟨w.heap.size, 1, none⟩) hB]; exact HS1.out.text
          have hsz2 : BASE ≤ wr.heap.size := by have := hb.out.size; rw [HBA.out] at this; exact this
          have hfr : Hid (Below w.heap.size w wr) := by show Below _ _ _; exact hB1.out.trans (hb.out.mono (by omega))
          generalize (rp L nm tx j).1 = cur at *
          cases hd : (rp L nm tx j).2
          · rw [hd] at hend
            have HE : Hid (cur ++ [(nm, tx)] = putL L nm tx) := by show _ = _; rw [← hend.out]; simp
            clear hend hd hlen
            go_wp2_with (at_builtin; go_must (refine wpList_appendS (o := ⟨some 68, _, _, _, _, _⟩) rfl (.tmp 65) (.tmp 67) rfl BASE _ _ rfl (ho.out.alloc _) _ _ _ [(nm, tx)] rfl rfl (lies_one (box_name _ nm tx _) (box_text _ nm tx _)) (fun h => by cases h) HLEN.out (by simp; omega) ?_; intro out2 w2 hown2 hb2))
            go_ret2
            exact ⟨out2, by rw [HR.out]; rfl, by rw [HR.out]; show SrcIs w2 out2 (putL L nm tx); rw [← HE.out]; exact hown2.srcs, (bnext hfr.out (below_box wr _)).trans (hb2.mono (by omega))⟩
          · rw [hd] at hend
            have HE : Hid (cur = putL L nm tx) := by show _ = _; rw [← hend.out]; simp
            clear hend hd hlen
            go_wp2
            go_ret2
            exact ⟨u6, by rw [HR.out]; rfl, by rw [HR.out]; show SrcIs wr u6 (putL L nm tx); rw [← HE.out]; exact ho.out.srcs, hfr.out⟩
    · have hR : putR L nm tx = (L, 2) := by unfold putR; rw [if_pos hv, if_neg hpm]
      have HR := Lib.hid hR
      clear hR hv
      by_cases hnm : nameB nm = true
      · have hts : ¬ tx.size ≤ 20000 := by intro h; apply hpm; unfold permB; rw [hnm]; simpa using h
        clear hpm
        go_enter Try.func38, Try.ntmps38
        go_wp2_with fail
        refine HC.out.mono ?_
        rintro e w1 ⟨rfl, hb⟩
        rw [HCK.out]
        have hs1 := HS0.out.below hb
        have HB1 := Lib.hid (bnext HB0.out hb)
        have HS1 := Lib.hid hs1
        have g1 := hs1.name
        have g2 := hs1.text
        clear hs1 hb
        go_wp2_with fail
        refine (named_any _ _ f1).mono ?_
        rintro e w1 ⟨rfl, rfl⟩
        go_wp2_with fail
        refine (copy_any p n cap L _ HS1.out.list (by omega) HPN.out).mono ?_
        rintro e w5 ⟨v, rfl, hs, hb⟩
        have HS5 := Lib.hid hs
        have HB5 := Lib.hid (bnext HB1.out hb)
        clear hs hb
        go_wp2_with fail
        go_ret2
        exact ⟨v, by rw [HR.out]; rfl, by rw [HR.out]; exact HS5.out, HB5.out⟩
      · have hnm' : nameB nm = false := by simpa using hnm
        clear hpm hnm
        go_enter Try.func38, Try.ntmps38
        go_wp2_with fail
        refine HC.out.mono ?_
        rintro e w1 ⟨rfl, hb⟩
        rw [HCK.out]
        have hs1 := HS0.out.below hb
        have HB1 := Lib.hid (bnext HB0.out hb)
        have HS1 := Lib.hid hs1
        have g1 := hs1.name
        have g2 := hs1.text
        clear hs1 hb
        go_wp2_with fail
        refine (named_any _ _ f1).mono ?_
        rintro e w1 ⟨rfl, rfl⟩
        go_wp2_with fail
        refine (copy_any p n cap L _ HS1.out.list (by omega) HPN.out).mono ?_
        rintro e w5 ⟨v, rfl, hs, hb⟩
        have HS5 := Lib.hid hs
        have HB5 := Lib.hid (bnext HB1.out hb)
        clear hs hb
        go_wp2_with fail
        go_ret2
        exact ⟨v, by rw [HR.out]; rfl, by rw [HR.out]; exact HS5.out, HB5.out⟩
  · have hck : chk L = 1 := by unfold chk; rw [if_neg hv]
    have HCK := Lib.hid hck
    have hR : putR L nm tx = (L, 1) := by unfold putR; rw [if_neg hv]
    have HR := Lib.hid hR
    clear hck hR hv
    go_enter Try.func38, Try.ntmps38
    go_wp2_with fail
    refine HC.out.mono ?_
    rintro e w1 ⟨rfl, hb⟩
    rw [HCK.out]
    have HB1 := Lib.hid (bnext HB0.out hb)
    have HS1 := Lib.hid (HS0.out.below hb)
    clear hb
    go_wp2_with fail
    refine (copy_any p n cap L _ HS1.out.list (by omega) HPN.out).mono ?_
    rintro e w5 ⟨v, rfl, hs, hb⟩
    have HS5 := Lib.hid hs
    have HB5 := Lib.hid (bnext HB1.out hb)
    clear hs hb
    go_wp2_with fail
    go_ret2
    exact ⟨v, by rw [HR.out]; rfl, by rw [HR.out]; exact HS5.out, HB5.out⟩

end Go.Proofs.Ytflcpcefjliijaa
