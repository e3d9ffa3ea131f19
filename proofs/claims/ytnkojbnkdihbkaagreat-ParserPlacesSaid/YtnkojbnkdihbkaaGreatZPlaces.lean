/-
  PROVED: for any text that the document's maker of programs makes of a list of numbers, and any number: the places of the nodes and errors of the items that Module reads are those of tokens, and with blanks and comments between the same tokens it reads the same, at the tokens' places there; no condition.
-/
import Derived.Test.YtnkojbnkdihbkaaGreatRows
import Derived.Test.YtnkojbnkdihbkaaGreatZP1
import Derived.Test.YtnkojbnkdihbkaaGreatZB7
import Derived.WalkKit
import Derived.ProofKit
import Derived.OpenShut
import Derived.ShutString
namespace Go.Proofs.YtnkojbnkdihbkaaGreat.parserPlaces
open Go.ChangeShapes Go.WideShapes Go.ChangeAt Go.RowKit
open Go.ChangeMaps (open_string shut_string)
set_option linter.unusedVariables false

theorem own : ownKnob Tryz.prog.godebug = none := by kernel_rfl
theorem laidOut : laidOutB Tryz.prog = true := by kernel_rfl

theorem tok_text {s : ByteArray} (hs : s.size ≤ 20000) : ∀ t ∈ tokList s, t.text.size ≤ s.size := by
  rw [tokList_small hs]
  intro t ht
  have := ((Lx.toks_scan s).bounds.2.2 t ht).1
  simpa using this
/-- a number below four, for any number -/
theorem mods (m : Int) : ∃ kf : Nat → Nat, (∀ i, kf i < 4) ∧ ∀ (i : Nat) W, Calls Tryz.prog 7 #[.int .i64 (wrap64 (m + (i : Int))), .int .i64 4] W fun e w' => e = .returned (.int .i64 (kf i : Int)) ∧ W = w' := by
  have h : ∀ i : Nat, ∃ k : Nat, k < 4 ∧ ∀ W, Calls Tryz.prog 7 #[.int .i64 (wrap64 (m + (i : Int))), .int .i64 4] W fun e w' => e = .returned (.int .i64 (k : Int)) ∧ W = w' := fun i => by
    obtain ⟨k, h1, h2, h3⟩ := mod_any (wrap64 (m + (i : Int))) 4 (by decide) (by decide) (by unfold wrap64; omega) (by unfold wrap64; omega)
    obtain ⟨n, rfl⟩ := Int.eq_ofNat_of_zero_le h2
    exact ⟨n, by omega, h1⟩
  exact ⟨fun i => Classical.choose (h i), fun i => (Classical.choose_spec (h i)).1, fun i W => (Classical.choose_spec (h i)).2 W⟩

theorem lies_int {w : World} {b : Nat} {k : Int} (c0 : w.cell? ⟨b, 0, none⟩ = some (.int .i64 k)) : LiesL intE w (some ⟨b, 0, none⟩) [k] := fun _ => ⟨b, 0, rfl, fun j v hv => by
  rw [Enc.all_cons, Enc.all_nil, List.append_nil] at hv
  rw [Nat.zero_add]
  match j with
  | 0 => simp [intE] at hv; subst hv; exact c0
  | j + 1 => simp [intE] at hv⟩
theorem ints_room {n : Nat} (h : n ≤ 20001) : n + 1 ≤ maxLen ∧ (n + 1) * 8 ≤ 140737488355328 := by unfold maxLen; omega
set_option maxHeartbeats 40000000 in
set_option maxRecDepth 100000 in
theorem walk (m : Int) (p : Option Addr) (n cap : Nat) (w : World) (hn : n ≤ maxLen) (hr : Rolls w p n) (hb : ∀ b o, p = some ⟨b, o, none⟩ → b < w.heap.size) :
    Calls Tryz.prog 5 #[.slice p n cap, .int .i64 m] w fun e w' => e = .returned (.bool true) ∧ Below w.heap.size w w' := by
  by_cases h1 : 400 < n
  · clear hr hb
    go_enter Tryz.func5, Tryz.ntmps5
    go_wp2_with fail
    refine (light_no p n cap _ h1 hn).mono ?_
    rintro e w1 ⟨rfl, rfl⟩
    go_wp2_with fail
    refine (awake03_any _).mono ?_
    rintro e w1 ⟨rfl, hb⟩
    have HB := Lib.hid hb
    clear hb
    go_wp2_with fail
    go_ret
    exact ⟨rfl, HB.out⟩
  · have HDW := Lib.hid (rolled (cap := cap) (show n ≤ 400 by omega) hr hb)
    clear hr hb
    obtain ⟨kf, hk1, hk2⟩ := mods m
    have HK1 := Lib.hid hk1
    have HK2 := Lib.hid hk2
    clear hk1 hk2
    obtain ⟨g, hg⟩ : ∃ g : Nat → Lx.Bs, Hid (∀ i, g i = Lx.gapsL.getD (kf i) [32]) := ⟨_, fun i => rfl⟩
    have HG : Hid (∀ i, g i ∈ Lx.gapsL) := fun i => by
      rw [hg.out i, List.getD_eq_getElem?_getD, List.getElem?_eq_getElem (show kf i < Lx.gapsL.length from HK1.out i)]
      exact List.getElem_mem _
    go_enter Tryz.func5, Tryz.ntmps5
    go_wp2_with fail
    refine (light_yes p n cap _ (by omega)).mono ?_
    rintro e w1 ⟨rfl, rfl⟩
    go_wp2_with fail
    refine (roll_any p n cap _).mono ?_
    rintro e w2 ⟨rfl, rfl⟩
    go_wp2_with fail
    refine (text_any ⟨w1.heap.size, p, n, cap⟩ _ HDW.out.1 HDW.out.2).mono ?_
    rintro e w3 ⟨tx, rfl, htx, hfd⟩
    have HB3 : Hid (Below w1.heap.size w1 w3) := (below_box w1 _).trans (hfd.base _ (Nat.le_refl _) (below_box w1 _).size)
    clear hfd HDW
    go_wp2_with fail
    refine (parserModule_any tx _ (by omega)).mono ?_
    rintro e w4 hmod
    obtain ⟨⟨ts, es⟩, HM⟩ : ∃ z, modOf tx = some z := by
      cases h : modOf tx with
      | none => rw [h] at hmod; exact hmod.elim
      | some z => exact ⟨z, rfl⟩
    rw [HM] at hmod
    obtain ⟨v5, v6, rfl, ht, he, hb⟩ := hmod
    obtain ⟨p5, c5, rfl, ht5⟩ := ht.shape
    obtain ⟨p6, c6, rfl, he6, hl6⟩ := he.shape
    clear ht he
    have HT5 := Lib.hid ht5
    have HE6 := Lib.hid he6
    have HB4 := Lib.hid (bnext HB3.out hb)
    clear hb ht5 he6 HB3
    go_wp2_with fail
    refine (tokens_any tx _ (by omega)).mono ?_
    rintro e w5 ⟨v, rfl, hv0, hb⟩
    obtain ⟨p7, c7, rfl, hv, hl7⟩ := hv0.shape
    clear hv0
    have HL := Lib.hid hv
    have HT5' := Lib.hid (HT5.out.later hb)
    have HE6' := Lib.hid (HE6.out.below hb)
    have HB5 := Lib.hid (bnext HB4.out hb)
    clear hb hv HT5 HE6 HB4
    have htok := toks_toks (s := tx) (by omega)
    have hpos := htok.pos
    have HTX := Lib.hid (tok_text (s := tx) (by omega))
    have hfew := htok.few
    clear htok
    obtain ⟨N, hN⟩ : ∃ N, (tokList tx).length = N := ⟨_, rfl⟩
    rw [hN] at HL hpos hfew hl7 ⊢
    have HN := Lib.hid hN
    clear hN
    have hpos' : ((N : Int) == 0) = false := by simp; omega
    go_wp2_with fail
    go_loopw [10, 11, 12] (fun a v i wr => ∃ (j : Nat) (S : ByteArray), j ≤ N ∧ i = .int .i64 j ∧ v = .string S ∧ Hid (S.data.toList = sprL g (tokList tx) j) ∧ Hid (OwnL intE 3 wr w5.heap.size a (plcL g (tokList tx) j)) ∧ Hid (Below w5.heap.size w5 wr)) (fun _ _ i _ => N - (intOf i).toNat)
    case atStart => exact ⟨0, ByteArray.empty, Nat.zero_le _, rfl, rfl, rfl, OwnL.isNil _ _ _ _, Below.refl _ _⟩
    case round =>
      obtain ⟨j, S, hj, rfl, rfl, hS, hO, hb⟩ := hrel
      by_cases hlt : j < N
      · have hsz : S.size ≤ j * 12502 := by
          have := sprL_size HG.out (B := 12496) (L := tokList tx) (fun t ht => Nat.le_trans (HTX.out t ht) htx) j (by rw [HN.out]; omega)
          rw [← hS.out] at this
          simpa using this
        have hsz2 : j * 12502 ≤ 20001 * 12502 := Nat.mul_le_mul_right _ (by omega)
        obtain ⟨-, -, -, hl⟩ := HL.out.lies
        obtain ⟨b7, off7, rfl, hc7⟩ := hl (by omega)
        obtain ⟨x0, x1, x2⟩ := tok_cells (hc7.below hb.out) j (by rw [HN.out]; exact hlt)
        obtain ⟨tt, HTT⟩ : ∃ tt, Hid (((tokList tx).getD j tok0).text = tt) := ⟨_, rfl⟩
        rw [HTT.out] at x1
        have htt : tt.size ≤ 12496 := by
          rw [← HTT.out]
          exact Nat.le_trans (HTX.out _ (by rw [getD_eq _ _ _ (by rw [HN.out]; exact hlt)]; exact List.getElem_mem _)) htx
        have hlt' : (j : Int) < (N : Int) := by omega
        have hgj := hg.out j
        have hk4 := HK1.out j
        have hmc := HK2.out j
        generalize kf j = kk at hgj hk4 hmc
        have HMC := Lib.hid hmc
        have R := ints_room (n := (plcL g (tokList tx) j).length) (by rw [plcL_length]; omega)
        have R1 := Lib.hid R.1
        have R2 := Lib.hid R.2
        have HC7 := Lib.hid hc7
        have hjN : Hid (j < (tokList tx).length) := by show _ < _; rw [HN.out]; exact hlt
        clear hmc x0 x1 x2 hl hc7 R
        rcases (by omega : kk = 0 ∨ kk = 1 ∨ kk = 2 ∨ kk = 3) with rfl | rfl | rfl | rfl
        all_goals
          have HGJ := Lib.hid hgj
          clear hgj
          go_wp2_with fail
          refine (HMC.out _).mono ?_
          rintro e w6 ⟨rfl, rfl⟩
          go_wp2_with (at_builtin; go_must (refine wpList_appendL (E := intE) (o := ⟨some 54, _, _, _, _, _⟩) Tryz.underlying28 infoInt rfl rfl (.tmp 50) (.tmp 53) rfl w5.heap.size _ (plcL g (tokList tx) j) rfl ((hO.out.alloc _).alloc _) _ 1 1 [_] rfl rfl (lies_int (by simp [go_sem]; rfl)) (fun h => by cases h) R1.out R2.out (by have := hb.out.size; simp; omega) ?_; intro out2 w7 hown2 hb2; have HB7 : Hid (Below w5.heap.size w5 w7) := ((hb.out.alloc hb.out.size _).alloc (by have := hb.out.size; simp; omega) _).trans hb2; have HO7 := Lib.hid hown2; clear hown2 hb2; obtain ⟨-, x1, -⟩ := tok_cells (HC7.out.below HB7.out) j hjN.out; rw [HTT.out] at x1))
          go_roundw
          case rel => exact ⟨j + 1, _, by omega, by go_num, rfl, by show _ = _; rw [sprL, HGJ.out, HTT.out, ← hS.out]; simp [Lx.gapsL], by have h := HO7.out; show OwnL _ _ _ _ _ _; rw [plcL, HGJ.out, ← hS.out]; simpa [Lx.gapsL] using h, HB7⟩
          case measure => simp [intOf]; omega
      · have hje : N = j := by omega
        subst hje
        have hsp : S.data.toList = Lx.spread g 0 (tokList tx) := by rw [hS.out, ← HN.out, (sprL_end _ _).1]
        have hown := hO.out
        rw [← HN.out, (sprL_end _ _).2] at hown
        by_cases hbig : 20000 < S.size
        · have hd : (20000 : Int) < (S.size : Int) := by omega
          clear hown hsp
          go_wp2_with fail
          refine (awake03_any _).mono ?_
          rintro e w8 ⟨rfl, hb8⟩
          have HB := Lib.hid (HB5.out.trans ((hb.out.trans (hb8.mono hb.out.size)).mono HB5.out.size))
          clear hb8
          go_wp2_with fail
          go_ret
          exact ⟨rfl, HB.out⟩
        · have hmr := mod_spread HG.out (s := tx) (x := S) (by omega) (by omega) hsp
          obtain ⟨ES, hES⟩ : ∃ ES, Lx.placesF g 0 0 (tokList tx) = ES := ⟨_, rfl⟩
          rw [hES] at hmr hown
          obtain ⟨pa, ca, rfl, hsl, hla⟩ := hown.sl.shape
          have HO := Lib.hid hsl
          have hd : ¬ (20000 : Int) < (S.size : Int) := by omega
          clear hown hsp hsl hES
          have HMR := Lib.hid hmr
          clear hmr
          go_wp2_with fail
          refine (parserModule_any S _ (by omega)).mono ?_
          rintro e w8 hmod
          obtain ⟨⟨ts', es'⟩, HM'⟩ : ∃ z, modOf S = some z := by
            cases h : modOf S with
            | none => rw [h] at hmod; exact hmod.elim
            | some z => exact ⟨z, rfl⟩
          rw [HM'] at hmod
          have hmr := HMR.out
          rw [HM, HM'] at hmr
          obtain ⟨hLR, hIR⟩ := hmr
          obtain ⟨v13, v14, rfl, ht, he, hb8⟩ := hmod
          obtain ⟨p13, c13, rfl, ht13⟩ := ht.shape
          obtain ⟨p14, c14, rfl, he14, hl14⟩ := he.shape
          have hb58 : Below w5.heap.size w5 w8 := hb.out.trans (hb8.mono hb.out.size)
          have HT5 := Lib.hid (HT5'.out.later hb58)
          have HE6 := Lib.hid (HE6'.out.below hb58)
          have HLL := Lib.hid (HL.out.below hb58)
          have HO8 := Lib.hid (HO.out.below hb8)
          have HT13 := Lib.hid ht13
          have HE14 := Lib.hid he14
          have HLR := Lib.hid hLR
          have HIR := Lib.hid hIR
          have HB8 := Lib.hid (HB5.out.trans (hb58.mono HB5.out.size))
          clear ht he ht13 he14 hb8 hb58 HMR HO HT5' HE6' HL hS hO
          rw [← HLR.out.1] at HT13 ⊢
          rw [← HIR.out.1] at HE14 ⊢
          have hmax5 := HT5.out.few
          obtain ⟨n5, hn5⟩ : ∃ n5, ts.length = n5 := ⟨_, rfl⟩
          rw [hn5] at HT5 HT13 hmax5 ⊢
          have HN5 := Lib.hid hn5
          obtain ⟨n6, hn6⟩ : ∃ n6, es.length = n6 := ⟨_, rfl⟩
          rw [hn6] at HE6 HE14 hl6 ⊢
          have HN6 := Lib.hid hn6
          clear hn5 hn6
          go_wp2_with fail
          refine (awake03_any _).mono ?_
          rintro e w9 ⟨rfl, hb⟩
          have HT5b := Lib.hid (HT5.out.later hb)
          have HE6b := Lib.hid (HE6.out.below hb)
          have HLb := Lib.hid (HLL.out.below hb)
          have HOb := Lib.hid (HO8.out.below hb)
          have HT13b := Lib.hid (HT13.out.later hb)
          have HE14b := Lib.hid (HE14.out.below hb)
          have HB9 := Lib.hid (bnext HB8.out hb)
          clear hb HT5 HE6 HLL HO8 HT13 HE14 HB8
          have hLmax : Hid ((tokList tx).length ≤ 4611686018427387904) := by show _ ≤ _; rw [HN.out]; omega
          unfold maxLen at hmax5 hl6
          go_wp2_with fail
          go_loopw [15] (fun v wr => ∃ j : Nat, j ≤ n5 ∧ v = .int .i64 j ∧ Hid (Below w9.heap.size w9 wr)) (fun i _ => n5 - (intOf i).toNat)
          case atStart => exact ⟨0, Nat.zero_le _, rfl, Below.refl _ _⟩
          case round =>
            obtain ⟨j, hj, rfl, hb⟩ := hrel
            by_cases hlt : j < n5
            · have hjl : j < ts.length := by rw [HN5.out]; exact hlt
              have hjl' : j < ts'.length := by rw [← HLR.out.1]; exact hjl
              obtain ⟨z1, off1, q1, rfl, I1, x10, x11, x12, x13⟩ := HT5b.out.at_.2 j hjl
              obtain ⟨z2, off2, q2, rfl, I2, x20, x21, x22, x23⟩ := HT13b.out.at_.2 j hjl'
              have HC := Lib.hid (fun W (hW : Below wr.heap.size wr W) => shifted_any p7 pa N c7 ES.length ca (tokList tx) ES hLmax.out (HLR.out.2 j hjl hjl') q1 q2 _ _ W ((I1.later hb.out).later hW) ((I2.later hb.out).later hW) ((HLb.out.below hb.out).below hW) ((HOb.out.below hb.out).below hW))
              have hlj : (j : Int) < (n5 : Int) := by omega
              have y10 := fun q => cell_grew (keep_cell hb.out x10) q
              have y11 := fun q => cell_grew (keep_cell hb.out x11) q
              have y12 := fun q => cell_grew (keep_cell hb.out x12) q
              have y13 := fun q => cell_grew (keep_cell hb.out x13) q
              have y20 := fun q => cell_grew (keep_cell hb.out x20) q
              have y21 := fun q => cell_grew (keep_cell hb.out x21) q
              have y22 := fun q => cell_grew (keep_cell hb.out x22) q
              have y23 := fun q => cell_grew (keep_cell hb.out x23) q
              clear I1 I2 x10 x11 x12 x13 x20 x21 x22 x23
              go_wp2_with fail
              refine wp_region_grew (by kernel_rfl) (by kernel_rfl) ?_
              repeat (go_big_quiet_step ((go_at_call 15; exact Calls.grew_of (HC.out _ (grew_below _ _)))))
              refine wpQuiet_nil ?_
              intro w10 hq
              have HQ := Lib.hid (of_grew hq)
              clear hq y10 y11 y12 y13 y20 y21 y22 y23
              go_wp2_with fail
              go_roundw
              case rel => exact ⟨j + 1, by omega, by go_num, hb.out.trans (HQ.out.mono hb.out.size)⟩
              case measure => simp [intOf]; omega
            · have HB10 := Lib.hid (HB9.out.trans (hb.out.mono HB9.out.size))
              have HE6c := Lib.hid (HE6b.out.below hb.out)
              have HLc := Lib.hid (HLb.out.below hb.out)
              have HOc := Lib.hid (HOb.out.below hb.out)
              have HE14c := Lib.hid (HE14b.out.below hb.out)
              clear hb HT5b HE6b HLb HOb HT13b HE14b HB9
              go_wp2_with fail
              go_loopw [16] (fun v w11 => ∃ j : Nat, j ≤ n6 ∧ v = .int .i64 j ∧ Hid (Below wr.heap.size wr w11)) (fun i _ => n6 - (intOf i).toNat)
              case atStart => exact ⟨0, Nat.zero_le _, rfl, Below.refl _ _⟩
              case round =>
                obtain ⟨j, hj, rfl, hb⟩ := hrel
                by_cases hlt : j < n6
                · have hjl : j < es.length := by rw [HN6.out]; exact hlt
                  have hjl' : j < es'.length := by rw [← HIR.out.1]; exact hjl
                  obtain ⟨-, -, -, hl1⟩ := HE6c.out.lies
                  obtain ⟨b1, o1, rfl, hc1⟩ := hl1 (by omega)
                  obtain ⟨-, -, -, hl2⟩ := HE14c.out.lies
                  obtain ⟨b2, o2, rfl, hc2⟩ := hl2 (by omega)
                  have x1 := int_cells (hc1.below hb.out) j hjl
                  have x2 := int_cells (hc2.below hb.out) j hjl'
                  have hP := HIR.out.2 j hjl hjl'
                  rw [← getD_eq es 0 j hjl, ← getD_eq es' 0 j hjl'] at hP
                  generalize es.getD j 0 = k1 at x1 hP
                  generalize es'.getD j 0 = k2 at x2 hP
                  have HP := Lib.hid hP
                  have hlj : (j : Int) < (n6 : Int) := by omega
                  have hs1 : ∀ k, SlIs tokEnc (wr.drewN k) (.slice p7 N c7) (tokList tx) := fun k => (HLc.out.below hb.out).below (drew_below k)
                  have hs2 : ∀ k, SlIs intE (wr.drewN k) (.slice pa ES.length ca) ES := fun k => (HOc.out.below hb.out).below (drew_below k)
                  clear hP hl1 hl2 hc1 hc2
                  go_wp2_with fail
                  go_quiet ((go_at_call 16; refine Calls.quiet_of_same (where_place HP.out hLmax.out (hs1 _) (hs2 _))))
                  go_wp2_with fail
                  go_roundw
                  case rel => exact ⟨j + 1, by omega, by go_num, hb.out.trans ((drew_below (B := wr.heap.size) _).mono hb.out.size)⟩
                  case measure => simp [intOf]; omega
                · go_wp2_with fail
                  go_ret
                  exact ⟨rfl, HB10.out.trans (hb.out.mono HB10.out.size)⟩

set_option maxRecDepth 100000 in
theorem lifted (os : Os) (started : os.Started) (H : Type) (enc : TypeId × Value → H) :
    ReturnsInHanded {} Tryz.checked os 5 .any (Rows.parserPlacesSpec.pre6 enc Tryz.prog Tryz.f5 Rows.parserPlacesRow.domain false) (Rows.parserPlacesSpec.post enc Tryz.prog Tryz.f5 false true false false) := by
  refine returnsInHanded_of_change (C := Tryz.checked) own started (by kernel_rfl) Tryz.func5
    (ChangeSpec.witness6 (enc := enc) (C := Tryz.checked) false ⟨#[], #[.slice none 0 0, .int .i64 0], []⟩ 8 (by kernel_rfl) (by kernel_rfl) (by kernel_rfl) (by kernel_rfl)) ?_
  intro W base args ds gs before hval0 hW hcnd _
  have hval : ∀ (j : Nat) t v, Tryz.f5.params[j]? = some t → args[j]? = some v → Value.okWide Tryz.prog W .any base t v := hval0
  have hW' := hW
  obtain ⟨p, q, hA0, hV, rfl, hfz, hnd⟩ := hW
  have hA : DataW.TrodAll enc Tryz.prog W 0 (fun _ => true) true Tryz.f5.params.toList args.toList ds p := hA0
  rw [Tryz.params5] at hA hval
  obtain ⟨v0, vs0, d0, ds0, p0, q0, hargs, rfl, rfl, h0, r0⟩ := trodAll_cons hA
  obtain ⟨v1, vs1, d1, ds1, p1, q1, rfl, rfl, rfl, h1, r1⟩ := trodAll_cons r0
  obtain ⟨rfl, rfl, rfl⟩ := trodAll_nil r1
  obtain rfl : args = #[v0, v1] := by cases args; simp_all
  obtain ⟨rfl, rfl⟩ := trodVars_none hV
  have k0 := h0
  have lt0 : ∀ x ∈ p0, x.block < W.heap.size := by obtain ⟨m, hm⟩ := k0; exact DataW.trod_lt m _ _ _ hm
  have k1 := h1
  have lt1 : ∀ x ∈ p1, x.block < W.heap.size := by obtain ⟨m, hm⟩ := k1; exact DataW.trod_lt m _ _ _ hm
  obtain ⟨p', n, cap, rfl, hn, hro, hin⟩ := open_rolls (hval 0 28 v0 rfl rfl) h0
  obtain ⟨i, rfl, _, _, w1⟩ := open_int Tryz.underlying3 (hval 1 3 v1 rfl rfl) h1
  clear hA0 hval0
  refine (walk i p' n cap W hn hro hin).mono fun e W' ⟨he, bel⟩ => ?_
  subst he
  exact ⟨_, rfl, _, _, _, [], _, [], hW', trodAll_mk1 (shut_bool Tryz.underlying4 _), (trodAll_cons_mk (Below.trod laidOut (by kernel_rfl) (of_decide_eq_true (by kernel_rfl)) k0 bel lt0) (trodAll_cons_mk (Below.trod laidOut (by kernel_rfl) (of_decide_eq_true (by kernel_rfl)) k1 bel lt1) trodAll_mk0)), rfl, bel.frame _, fun h => by cases h⟩

theorem proved : Rows.ParserPlacesSaid :=
  OpenClaim.holds_of_wide 5 Tryz.f5 rfl rfl rfl rfl rfl rfl rfl ⟨rfl, rfl, rfl, rfl, rfl⟩ rfl rfl rfl rfl rfl (by kernel_rfl) Tryz.func5 (by kernel_rfl)
    (of_decide_eq_true (by kernel_rfl)) (by unfold Func.isWrapper; first | (rw [if_pos (by decide +kernel)]; kernel_rfl) | (rw [if_neg (by decide +kernel)]; exact ⟨rfl, rfl⟩))
    (fun os started H enc _ => lifted os started H enc)
end Go.Proofs.YtnkojbnkdihbkaaGreat.parserPlaces
