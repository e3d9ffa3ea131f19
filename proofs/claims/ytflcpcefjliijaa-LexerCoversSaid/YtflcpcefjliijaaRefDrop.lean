/-
  CONTRACTS: the reference's Drop and Apply, and Same.
-/
import Derived.Test.YtflcpcefjliijaaRefPut
namespace Go.Proofs.Ytflcpcefjliijaa
open Go.RowKit
set_option linter.unusedVariables false

set_option maxHeartbeats 2000000 in
theorem refDrop_any (p : Option Addr) (n cap : Nat) (L : List Src) (nm : ByteArray) (w : World) (hsz : n ≤ 400000000) (hl : SrcIs w (.slice p n cap) L) (hpn : p = none → cap = 0) (hf : Fits L) :
    Calls Try.prog 40 #[.slice p n cap, .string nm] w (ListAnd w (dropR L nm).1 (dropR L nm).2) := by
  have HL := Lib.hid hl
  have HC := Lib.hid (refCheck_any p n cap L _ (by omega) hl hf)
  obtain ⟨hn, hc1, hc2, _⟩ := hl.lies
  have Hn := Lib.hid hn
  have HPN := Lib.hid hpn
  clear hl hn hpn
  by_cases hv : validB L = true
  · have hck : chk L = 0 := by unfold chk; rw [if_pos hv]
    have HCK := Lib.hid hck
    clear hck
    by_cases hfb : findB L nm = true
    · have hR : dropR L nm = (dropL L nm, 0) := by unfold dropR; rw [if_pos hv, if_pos hfb]
      have HR := Lib.hid hR
      have HFB := Lib.hid hfb
      have HEND := Lib.hid (rd_eq L hv nm hfb)
      clear hR hfb hv
      go_enter Try.func40, Try.ntmps40
      go_wp2_with fail
      refine HC.out.mono ?_
      rintro e w1 ⟨rfl, hb⟩
      rw [HCK.out]
      have HB1 := Lib.hid hb
      have HS1 := Lib.hid (HL.out.below hb)
      clear hb
      go_wp2_with fail
      refine (refFind_any p n cap L nm _ (by omega) HS1.out).mono ?_
      rintro e w1 ⟨rfl, rfl⟩
      rw [HFB.out]
      go_wp2_with fail
      obtain ⟨hn, hc1, hc2, hlies⟩ := HS1.out.lies
      have HLIES := Lib.hid hlies
      clear hlies hn
      generalize hBA : w1.heap.size = BASE at *
      have HBA := Lib.hid hBA
      clear hBA
      go_loopw [8, 9] (fun out i wr => ∃ j : Nat, j ≤ n ∧ i = .int .i64 j ∧ Hid (OwnS wr BASE out (rd L nm j)) ∧ Hid (Below BASE w1 wr)) (fun _ i _ => n - (intOf i).toNat)
      case atStart => exact ⟨0, Nat.zero_le _, rfl, OwnS.isNil _ _, Below.refl _ _⟩
      case round =>
        obtain ⟨j, hj, rfl, ho, hb⟩ := hrel
        by_cases hlt : j < n
        · obtain ⟨b, off, rfl, hcells0⟩ := HLIES.out (by omega)
          have hjl : j < L.length := by have := HS1.out.lies.1; omega
          have hbb : b < BASE := by rw [← HBA.out]; exact World.block_lt_of_cell? w1 _ (hcells0.name j hjl)
          have hx0 : wr.cell? ⟨b, off + j * 2, none⟩ = some (.string (L.getD j empty2).1) := by rw [hb.out.cell (p := ⟨b, off + j * 2, none⟩) hbb]; exact hcells0.name j hjl
          have hx1 : wr.cell? ⟨b, off + j * 2 + 1, none⟩ = some (.string (L.getD j empty2).2) := by rw [hb.out.cell (p := ⟨b, off + j * 2 + 1, none⟩) hbb]; exact hcells0.text j hjl
          have hi1 : (j : Int) < (n : Int) := by omega
          have hstep : rd L nm (j + 1) = rd L nm j ++ (if isNamed nm (L.getD j empty2) = true then [] else [L.getD j empty2]) := rfl
          have hlen := rd_length L nm j
          have hsz2 : BASE ≤ wr.heap.size := by have := hb.out.size; rw [HBA.out] at this; exact this
          generalize L.getD j empty2 = x at *
          obtain ⟨na, ta⟩ := x
          have HLEN1 : Hid ((rd L nm j).length + [(na, ta)].length ≤ 1800000000) := by show _ ≤ _; simp; omega
          clear hcells0 hjl hlen
          generalize rd L nm j = cur at *
          by_cases hne : (na.toList == nm.toList) = true
          · have HSTEP : Hid (rd L nm (j + 1) = cur) := by show _ = _; rw [hstep, if_pos (show isNamed nm (na, ta) = true from hne)]; simp
            clear hstep
            go_wp2
            go_roundw
            case rel => exact ⟨j + 1, by omega, by go_num, by show OwnS _ _ _ _; rw [HSTEP.out]; exact ho.out, hb⟩
            case measure => simp [intOf]; omega
          · have hne' : (na.toList == nm.toList) = false := by simpa using hne
            have HSTEP : Hid (rd L nm (j + 1) = cur ++ [(na, ta)]) := by show _ = _; rw [hstep, if_neg (show ¬ isNamed nm (na, ta) = true from hne)]
            clear hstep hne
            go_wp2_with (at_builtin; go_must (refine wpList_appendS (o := ⟨some 44, _, _, _, _, _⟩) rfl (.tmp 38) (.tmp 43) rfl BASE _ _ rfl (ho.out.alloc _) _ _ _ [(na, ta)] rfl rfl (lies_one (box_name _ na ta _) (box_text _ na ta _)) (fun h => by cases h) HLEN1.out (by simp; omega) ?_; intro out2 w2 hown2 hb2; have HO2 := Lib.hid hown2; have HB2 : Hid (Below BASE w1 w2) := (hb.out.alloc hsz2 _).trans hb2; clear hown2 hb2))
            go_roundw
            case rel => exact ⟨j + 1, by omega, by go_num, by show OwnS _ _ _ _; rw [HSTEP.out]; exact HO2.out, HB2⟩
            case measure => simp [intOf]; omega
        · have hje : j = n := by omega
          have hjl : j = L.length := by have := HS1.out.lies.1; omega
          have HE : Hid (rd L nm j = dropL L nm) := by show _ = _; rw [hjl]; exact HEND.out
          have hfr : Hid (Below w.heap.size w wr) := by show Below _ _ _; exact HB1.out.trans (hb.out.mono (by have := HB1.out.size; rw [HBA.out] at this; omega))
          clear hje hjl
          go_wp2
          go_ret2
          exact ⟨u8, by rw [HR.out]; rfl, by rw [HR.out]; show SrcIs wr u8 (dropL L nm); rw [← HE.out]; exact ho.out.srcs, hfr.out⟩
    · have hfb' : findB L nm = false := by simpa using hfb
      have hR : dropR L nm = (L, 4) := by unfold dropR; rw [if_pos hv, hfb']; rfl
      have HR := Lib.hid hR
      have HFB := Lib.hid hfb'
      clear hR hfb hfb' hv
      go_enter Try.func40, Try.ntmps40
      go_wp2_with fail
      refine HC.out.mono ?_
      rintro e w1 ⟨rfl, hb⟩
      rw [HCK.out]
      have HB1 := Lib.hid hb
      have HS1 := Lib.hid (HL.out.below hb)
      clear hb
      go_wp2_with fail
      refine (refFind_any p n cap L nm _ (by omega) HS1.out).mono ?_
      rintro e w1 ⟨rfl, rfl⟩
      rw [HFB.out]
      go_wp2_with fail
      refine (copy_any p n cap L _ HS1.out (by omega) HPN.out).mono ?_
      rintro e w5 ⟨v, rfl, hs, hb⟩
      have HS5 := Lib.hid hs
      have HB5 := Lib.hid (bnext HB1.out hb)
      clear hs hb
      go_wp2_with fail
      go_ret2
      exact ⟨v, by rw [HR.out]; rfl, by rw [HR.out]; exact HS5.out, HB5.out⟩
  · have hck : chk L = 1 := by unfold chk; rw [if_neg hv]
    have HCK := Lib.hid hck
    have hR : dropR L nm = (L, 1) := by unfold dropR; rw [if_neg hv]
    have HR := Lib.hid hR
    clear hck hR hv
    go_enter Try.func40, Try.ntmps40
    go_wp2_with fail
    refine HC.out.mono ?_
    rintro e w1 ⟨rfl, hb⟩
    rw [HCK.out]
    have HB1 := Lib.hid hb
    have HS1 := Lib.hid (HL.out.below hb)
    clear hb
    go_wp2_with fail
    refine (copy_any p n cap L _ HS1.out (by omega) HPN.out).mono ?_
    rintro e w5 ⟨v, rfl, hs, hb⟩
    have HS5 := Lib.hid hs
    have HB5 := Lib.hid (bnext HB1.out hb)
    clear hs hb
    go_wp2_with fail
    go_ret2
    exact ⟨v, by rw [HR.out]; rfl, by rw [HR.out]; exact HS5.out, HB5.out⟩

set_option maxHeartbeats 2000000 in
theorem refApply_any (p : Option Addr) (n cap : Nat) (L : List Src) (m tx : ByteArray) (at_ c : Int) (w : World) (hsz : n ≤ 400000000) (hl : SrcIs w (.slice p n cap) L) (hpn : p = none → cap = 0) (hf : Fits L) (f1 : m.size ≤ maxLen) (f2 : tx.size ≤ 140737488355328)
    (a1 : -9223372036854775808 ≤ at_) (a2 : at_ ≤ 9223372036854775807) (c1 : -9223372036854775808 ≤ c) (c2 : c ≤ 9223372036854775807) :
    Calls Try.prog 41 #[.slice p n cap, .agg #[.string m, .int .i64 at_, .int .i64 c, .string tx]] w (ListAnd w (applyR L m at_ c tx).1 (applyR L m at_ c tx).2) := by
  have hst : StaysE (w.alloc (.cells #[.string m, .int .i64 at_, .int .i64 c, .string tx] 31)) p n cap w.heap.size L m at_ c tx := ⟨hl.below (below_box w _), by simp [go_sem], by simp [go_sem], by simp [go_sem], by simp [go_sem]⟩
  have HS0 := Lib.hid hst
  have HB0 := Lib.hid (below_box w (.cells #[.string m, .int .i64 at_, .int .i64 c, .string tx] 31))
  have HC := Lib.hid (refCheck_any p n cap L _ (by omega) hst.list hf)
  obtain ⟨hn, hc1, hc2, _⟩ := hl.lies
  have Hn := Lib.hid hn
  have HPN := Lib.hid hpn
  clear hst hl hn hpn
  by_cases hv : validB L = true
  · have hck : chk L = 0 := by unfold chk; rw [if_pos hv]
    have HCK := Lib.hid hck
    clear hck
    by_cases hfb : findB L m = true
    · have hk : L.findIdx (isNamed m) < L.length := by simpa [findB] using hfb
      have hft : findT L m = (L.getD (L.findIdx (isNamed m)) empty2).2 := by unfold findT; rw [if_pos hk]
      have hR : applyR L m at_ c tx = if editErr (findT L m).size at_ c tx.size = 0 then (L.take (L.findIdx (isNamed m)) ++ ((m, editRes (findT L m) at_ c tx) :: L.drop (L.findIdx (isNamed m) + 1)), 0) else (L, editErr (findT L m).size at_ c tx.size) := by
        unfold applyR; rw [if_pos hv, if_pos hfb]
      have hts : (findT L m).size ≤ 20000 := by rw [hft]; exact valid_text L hv _ hk
      have hput : ∀ now : ByteArray, now.size ≤ 20000 → putR L m now = (L.take (L.findIdx (isNamed m)) ++ ((m, now) :: L.drop (L.findIdx (isNamed m) + 1)), 0) := fun now hs => put_there L hv m now hfb hs
      have HPUT := Lib.hid hput
      have HFB := Lib.hid hfb
      generalize hsft : findT L m = s at *
      have HFT := Lib.hid hsft
      clear hsft
      generalize L.findIdx (isNamed m) = k at *
      by_cases h2 : at_ < 0 ∨ c < 0 ∨ (s.size : Int) - at_ < c
      · have hE : editErr s.size at_ c tx.size = 2 := by unfold editErr; rw [if_pos h2]
        rw [hE, if_neg (by decide)] at hR
        have HR := Lib.hid hR
        clear hk hft hR hput hfb hv hE
        rcases Int.lt_or_le at_ 0 with ha | ha
        · clear h2
          go_enter Try.func41, Try.ntmps41
          go_wp2_with fail
          refine HC.out.mono ?_
          rintro e w1 ⟨rfl, hb⟩
          rw [HCK.out]
          have hs1 := HS0.out.below hb
          have HB1 := Lib.hid (bnext HB0.out hb)
          have HS1 := Lib.hid hs1
          have g0 := hs1.e0
          have g1 := hs1.e1
          have g2 := hs1.e2
          have g3 := hs1.e3
          clear hs1 hb
          go_wp2_with fail
          refine (refFind_any p n cap L m _ (by omega) HS1.out.list).mono ?_
          rintro e w1 ⟨rfl, rfl⟩
          rw [HFB.out]
          rw [HFT.out]
          go_wp2_with fail
          refine (copy_any p n cap L _ HS1.out.list (by omega) HPN.out).mono ?_
          rintro e w5 ⟨v, rfl, hs, hb⟩
          have HS5 := Lib.hid hs
          have HB5 := Lib.hid (bnext HB1.out hb)
          clear hs hb
          go_wp2_with fail
          go_ret2
          exact ⟨v, by rw [HR.out]; rfl, by rw [HR.out]; exact HS5.out, HB5.out⟩
        · rcases Int.lt_or_le c 0 with hc | hc
          · clear h2
            go_enter Try.func41, Try.ntmps41
            go_wp2_with fail
            refine HC.out.mono ?_
            rintro e w1 ⟨rfl, hb⟩
            rw [HCK.out]
            have hs1 := HS0.out.below hb
            have HB1 := Lib.hid (bnext HB0.out hb)
            have HS1 := Lib.hid hs1
            have g0 := hs1.e0
            have g1 := hs1.e1
            have g2 := hs1.e2
            have g3 := hs1.e3
            clear hs1 hb
            go_wp2_with fail
            refine (refFind_any p n cap L m _ (by omega) HS1.out.list).mono ?_
            rintro e w1 ⟨rfl, rfl⟩
            rw [HFB.out]
            rw [HFT.out]
            go_wp2_with fail
            refine (copy_any p n cap L _ HS1.out.list (by omega) HPN.out).mono ?_
            rintro e w5 ⟨v, rfl, hs, hb⟩
            have HS5 := Lib.hid hs
            have HB5 := Lib.hid (bnext HB1.out hb)
            clear hs hb
            go_wp2_with fail
            go_ret2
            exact ⟨v, by rw [HR.out]; rfl, by rw [HR.out]; exact HS5.out, HB5.out⟩
          · rcases Int.lt_or_le (s.size : Int) at_ with hb0 | hb0
            · clear h2
              go_enter Try.func41, Try.ntmps41
              go_wp2_with fail
              refine HC.out.mono ?_
              rintro e w1 ⟨rfl, hb⟩
              rw [HCK.out]
              have hs1 := HS0.out.below hb
              have HB1 := Lib.hid (bnext HB0.out hb)
              have HS1 := Lib.hid hs1
              have g0 := hs1.e0
              have g1 := hs1.e1
              have g2 := hs1.e2
              have g3 := hs1.e3
              clear hs1 hb
              go_wp2_with fail
              refine (refFind_any p n cap L m _ (by omega) HS1.out.list).mono ?_
              rintro e w1 ⟨rfl, rfl⟩
              rw [HFB.out]
              rw [HFT.out]
              go_wp2_with fail
              refine (copy_any p n cap L _ HS1.out.list (by omega) HPN.out).mono ?_
              rintro e w5 ⟨v, rfl, hs, hb⟩
              have HS5 := Lib.hid hs
              have HB5 := Lib.hid (bnext HB1.out hb)
              clear hs hb
              go_wp2_with fail
              go_ret2
              exact ⟨v, by rw [HR.out]; rfl, by rw [HR.out]; exact HS5.out, HB5.out⟩
            · have h3 : (s.size : Int) - at_ < c := by omega
              clear h2
              go_enter Try.func41, Try.ntmps41
              go_wp2_with fail
              refine HC.out.mono ?_
              rintro e w1 ⟨rfl, hb⟩
              rw [HCK.out]
              have hs1 := HS0.out.below hb
              have HB1 := Lib.hid (bnext HB0.out hb)
              have HS1 := Lib.hid hs1
              have g0 := hs1.e0
              have g1 := hs1.e1
              have g2 := hs1.e2
              have g3 := hs1.e3
              clear hs1 hb
              go_wp2_with fail
              refine (refFind_any p n cap L m _ (by omega) HS1.out.list).mono ?_
              rintro e w1 ⟨rfl, rfl⟩
              rw [HFB.out]
              rw [HFT.out]
              go_wp2_with fail
              refine (copy_any p n cap L _ HS1.out.list (by omega) HPN.out).mono ?_
              rintro e w5 ⟨v, rfl, hs, hb⟩
              have HS5 := Lib.hid hs
              have HB5 := Lib.hid (bnext HB1.out hb)
              clear hs hb
              go_wp2_with fail
              go_ret2
              exact ⟨v, by rw [HR.out]; rfl, by rw [HR.out]; exact HS5.out, HB5.out⟩
      · have ha : 0 ≤ at_ := by omega
        have hc : 0 ≤ c := by omega
        have hb0 : at_ ≤ (s.size : Int) := by omega
        have hb1 : c ≤ (s.size : Int) - at_ := by omega
        have hb2 : at_ + c ≤ (s.size : Int) := by omega
        have r1 := string_upto s at_ ha hb0
        have r2 := string_from s (at_ + c) (by omega) hb2
        have z1 : ((s.extract 0 at_.toNat).size : Int) = at_ := by rw [ByteArray.size_extract]; omega
        have z2 : ((s.extract (at_ + c).toNat s.size).size : Int) = (s.size : Int) - at_ - c := by rw [ByteArray.size_extract]; omega
        have hres : editText s at_ c tx = s.extract 0 at_.toNat ++ tx ++ s.extract (at_ + c).toNat s.size := rfl
        generalize s.extract 0 at_.toNat = A at *
        generalize s.extract (at_ + c).toNat s.size = B at *
        have w1 : IntKind.i64.wrap (at_ + c) = at_ + c := IntWalk.i64_in _ (by omega)
        have r3 : ∀ u : World, (Op.stringOp .add A tx).run Try.prog u = .ok (.string (A ++ tx)) u := fun u => run_string_add_sum u A tx (by omega)
        have r4 : ∀ u : World, (Op.stringOp .add (A ++ tx) B).run Try.prog u = .ok (.string (A ++ tx ++ B)) u := fun u => run_string_add_sum u (A ++ tx) B (by rw [ByteArray.size_append]; omega)
        have hnow : ((A ++ tx ++ B).size : Int) = (s.size : Int) - c + (tx.size : Int) := by rw [ByteArray.size_append, ByteArray.size_append]; omega
        by_cases h3 : (20000 : Int) < (s.size : Int) - c + (tx.size : Int)
        · have hE : editErr s.size at_ c tx.size = 3 := by unfold editErr; rw [if_neg h2, if_pos h3]
          rw [hE, if_neg (by decide)] at hR
          have HR := Lib.hid hR
          have hbig : (20000 : Int) < ((A ++ tx ++ B).size : Int) := by omega
          clear hk hft hR hput hfb hv hE h2 h3 hres
          generalize hN : A ++ tx ++ B = now at *
          clear hN hnow z1 z2
          have Q1 := Lib.hid r1
          have Q2 := Lib.hid r2
          go_enter Try.func41, Try.ntmps41
          go_wp2_with fail
          refine HC.out.mono ?_
          rintro e w1 ⟨rfl, hb⟩
          rw [HCK.out]
          have hs1 := HS0.out.below hb
          have HB1 := Lib.hid (bnext HB0.out hb)
          have HS1 := Lib.hid hs1
          have g0 := hs1.e0
          have g1 := hs1.e1
          have g2 := hs1.e2
          have g3 := hs1.e3
          clear hs1 hb
          go_wp2_with fail
          refine (refFind_any p n cap L m _ (by omega) HS1.out.list).mono ?_
          rintro e w1 ⟨rfl, rfl⟩
          rw [HFB.out]
          rw [HFT.out]
          go_wp2_with fail
          have HS1' := HS1
          go_quiet (fail)
          have HS1d : Hid (StaysE (w1.drewN nq) p n cap w.heap.size L m at_ c tx) := HS1.out.below (drew_below nq)
          have HB1d : Hid (Below w.heap.size w (w1.drewN nq)) := below_drewN HB1.out nq
          go_wp2_with fail
          refine (copy_any p n cap L _ HS1d.out.list (by omega) HPN.out).mono ?_
          rintro e w5 ⟨v, rfl, hs, hb⟩
          have HS5 := Lib.hid hs
          have HB5 := Lib.hid (bnext HB1d.out hb)
          clear hs hb
          go_wp2_with fail
          go_ret2
          exact ⟨v, by rw [HR.out]; rfl, by rw [HR.out]; exact HS5.out, HB5.out⟩
        · have hE : editErr s.size at_ c tx.size = 0 := by unfold editErr; rw [if_neg h2, if_neg h3]
          rw [hE, if_pos rfl] at hR
          have hRes : editRes s at_ c tx = A ++ tx ++ B := by unfold editRes; rw [hE, if_pos rfl, hres]
          rw [hRes] at hR
          have hsm : ((A ++ tx ++ B).size : Int) ≤ 20000 := by omega
          clear hk hft hput hfb hv hE h2 h3 hres hRes
          generalize hN : A ++ tx ++ B = now at *
          clear hN hnow z1 z2
          have HR := Lib.hid hR
          have HPT := Lib.hid (HPUT.out now (by omega))
          clear hR
          go_enter Try.func41, Try.ntmps41
          go_wp2_with fail
          refine HC.out.mono ?_
          rintro e w1 ⟨rfl, hb⟩
          rw [HCK.out]
          have hs1 := HS0.out.below hb
          have HB1 := Lib.hid (bnext HB0.out hb)
          have HS1 := Lib.hid hs1
          have g0 := hs1.e0
          have g1 := hs1.e1
          have g2 := hs1.e2
          have g3 := hs1.e3
          clear hs1 hb
          go_wp2_with fail
          refine (refFind_any p n cap L m _ (by omega) HS1.out.list).mono ?_
          rintro e w1 ⟨rfl, rfl⟩
          rw [HFB.out]
          rw [HFT.out]
          go_wp2_with fail
          go_quiet (fail)
          have HS1d : Hid (StaysE (w1.drewN nq) p n cap w.heap.size L m at_ c tx) := HS1.out.below (drew_below nq)
          have HB1d : Hid (Below w.heap.size w (w1.drewN nq)) := below_drewN HB1.out nq
          go_wp2_with fail
          refine (refPut_any p n cap L m now _ hsz HS1d.out.list HPN.out hf f1 (by unfold maxLen; omega)).mono ?_
          rintro e w5 ⟨v, rfl, hs, hb⟩
          rw [HPT.out] at hs
          rw [HPT.out]
          have HS5 := Lib.hid hs
          have HB5 := Lib.hid (bnext HB1d.out hb)
          clear hs hb
          go_wp2_with fail
          go_ret2
          exact ⟨v, by rw [HR.out]; rfl, by rw [HR.out]; exact HS5.out, HB5.out⟩
    · have hfb' : findB L m = false := by simpa using hfb
      have hR : applyR L m at_ c tx = (L, 4) := by unfold applyR; rw [if_pos hv, hfb']; rfl
      have HR := Lib.hid hR
      have HFB := Lib.hid hfb'
      clear hR hfb hfb' hv
      go_enter Try.func41, Try.ntmps41
      go_wp2_with fail
      refine HC.out.mono ?_
      rintro e w1 ⟨rfl, hb⟩
      rw [HCK.out]
      have hs1 := HS0.out.below hb
      have HB1 := Lib.hid (bnext HB0.out hb)
      have HS1 := Lib.hid hs1
      have g0 := hs1.e0
      have g1 := hs1.e1
      have g2 := hs1.e2
      have g3 := hs1.e3
      clear hs1 hb
      go_wp2_with fail
      refine (refFind_any p n cap L m _ (by omega) HS1.out.list).mono ?_
      rintro e w1 ⟨rfl, rfl⟩
      rw [HFB.out]
      go_wp2_with fail
      refine (copy_any p n cap L _ HS1.out.list (by omega) HPN.out).mono ?_
      rintro e w5 ⟨v, rfl, hs, hb⟩
      have HS5 := Lib.hid hs
      have HB5 := Lib.hid (bnext HB1.out hb)
      clear hs hb
      go_wp2_with fail
      go_ret2
      exact ⟨v, by rw [HR.out]; rfl, by rw [HR.out]; exact HS5.out, HB5.out⟩
  · have hck : chk L = 1 := by unfold chk; rw [if_neg hv]
    have HCK := Lib.hid hck
    have hR : applyR L m at_ c tx = (L, 1) := by unfold applyR; rw [if_neg hv]
    have HR := Lib.hid hR
    clear hck hR hv
    go_enter Try.func41, Try.ntmps41
    go_wp2_with fail
    refine HC.out.mono ?_
    rintro e w1 ⟨rfl, hb⟩
    rw [HCK.out]
    have hs1 := HS0.out.below hb
    have HB1 := Lib.hid (bnext HB0.out hb)
    have HS1 := Lib.hid hs1
    have g0 := hs1.e0
    have g1 := hs1.e1
    have g2 := hs1.e2
    have g3 := hs1.e3
    clear hs1 hb
    go_wp2_with fail
    refine (copy_any p n cap L _ HS1.out.list (by omega) HPN.out).mono ?_
    rintro e w5 ⟨v, rfl, hs, hb⟩
    have HS5 := Lib.hid hs
    have HB5 := Lib.hid (bnext HB1.out hb)
    clear hs hb
    go_wp2_with fail
    go_ret2
    exact ⟨v, by rw [HR.out]; rfl, by rw [HR.out]; exact HS5.out, HB5.out⟩

end Go.Proofs.Ytflcpcefjliijaa
