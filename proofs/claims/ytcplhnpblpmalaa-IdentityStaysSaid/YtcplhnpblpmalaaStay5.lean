/-
  WALK: IdentityStays.
-/
import Derived.Test.YtcplhnpblpmalaaStay5P
import Derived.Test.YtcplhnpblpmalaaMod
namespace Go.Proofs.Ytcplhnpblpmalaa.Idn
open Go Go.RowKit Go.Maps
set_option linter.unusedVariables false
set_option linter.unusedSimpArgs false
set_option maxRecDepth 1000000

theorem base_thrown {d : Dice} {w w2 w3 : World} (hB : Below w.heap.size w w2) (ht : Thrown d w2 w3) (hD : w.heap.size ≤ d.D) : Below w.heap.size w w3 :=
  hB.trans (ht.but.below hB.size (fun q hq => by unfold isAt at hq; subst hq; exact hD))
theorem sl_thrown {d : Dice} {w w' : World} {q : Option Addr} {m c : Nat} {E : List En} (hs : SlIs encEn w (.slice q m c) E) (hd : DiceAt d w) (h2 : w.cell? ⟨d.D, 2, none⟩ = none) (ht : Thrown d w w') : SlIs encEn w' (.slice q m c) E := by
  obtain ⟨h1, h3, h4, hl⟩ := hs.lies
  refine ⟨_, _, by rw [h1], by omega, h4, fun h => ?_⟩
  have hE : 0 < E.length := by first | exact h | exact List.length_pos_iff.2 h
  obtain ⟨b, off, rfl, hc⟩ := hl (by omega)
  refine ⟨b, off, rfl, fun j v hv => ?_⟩
  refine ht.but.keep (hc j v hv) (fun hq => ?_)
  unfold isAt at hq
  obtain ⟨c0, c1, -, -⟩ := enAt hc 0 hE
  simp only [Nat.zero_mul, Nat.add_zero] at c0 c1
  injection hq with e1 e2 _
  subst e1
  have hr := hd.row
  rcases (show off = 0 ∨ off = 1 by omega) with rfl | rfl
  · rw [hr] at c0; cases c0
  · rw [h2] at c1; cases c1

abbrev idsT : TypeId := 29
/-- between two rounds -/
structure St5 (d : Dice) (w3 wr : World) (X : Nat) (next : Int) (q : Option Addr) (m c : Nat) (E : List En) (k : Nat) : Prop where
  thrown : Thrown d w3 wr
  box : wr.heap[X]? = some (.cells #[.int .i64 next, .slice q m c] idsT (0, 0))
  chk : Chk next E
  fits : FitsE E
  len : E.length ≤ 8
  high : next ≤ 1 + 8 * (k : Int)
  few : k ≤ 7
  sl : SlIs encEn wr (.slice q m c) E
theorem box_cells {w : World} {X : Nat} {a b : Value} {T : TypeId} (h : w.heap[X]? = some (.cells #[a, b] T (0, 0))) : CellsAt w X 0 [a, b] := by
  intro j v hv
  rw [Lib.cell_of_heap h]
  simpa using hv
theorem heap_lt5 {w : World} {k : Nat} {o : Obj} (h : w.heap[k]? = some o) : k < w.heap.size := (Array.getElem?_eq_some_iff.1 h).1
theorem box_kept {w w' : World} {X : Nat} {a b : Value} {T : TypeId} (h : w.heap[X]? = some (.cells #[a, b] T (0, 0))) (hb : Below w.heap.size w w') : w'.heap[X]? = some (.cells #[a, b] T (0, 0)) := by
  rw [hb.block X (Array.getElem?_eq_some_iff.1 h).1]
  exact h
theorem fits_made {n1 : Int} {E1 : List En} {l : List It} (hm : Made5 l) (hc : Chk n1 E1) (hn : n1 ≤ 1000000) (h : ∀ p ∈ E1, p.2 ∈ l) : FitsE E1 := fun y hy =>
  ⟨hm.fits _ (h y hy), by have := hc.pos y hy; simp [Lit.wf, IntKind.min, IntKind.max, IntKind.signed, IntKind.bits]; omega⟩

set_option maxHeartbeats 4000000 in
theorem stay5 (p : Option Addr) (n cap : Nat) (w : World) (hn : n ≤ maxLen) (hr : Rolls w p n) (hb : ∀ b o, p = some ⟨b, o, none⟩ → b < w.heap.size) :
    Calls Try.prog 4 #[.slice p n cap] w fun e w' => e = .returned (.bool true) ∧ Below w.heap.size w w' := by
  by_cases h1 : 400 < n
  · clear hr hb
    go_enter Try.func4, Try.ntmps4
    go_wp2_with fail
    refine (light_no p n cap _ h1 hn).mono ?_
    rintro e w1 ⟨rfl, rfl⟩
    go_wp2_with fail
    refine (awake_any _).mono ?_
    rintro e w1 ⟨rfl, hb⟩
    have HB := Lib.hid hb
    clear hb
    go_wp2_with fail
    go_ret
    exact ⟨rfl, HB.out⟩
  · have HDW := Lib.hid (rolled (cap := cap) (show n ≤ 400 by omega) hr hb)
    clear hr hb
    go_enter Try.func4, Try.ntmps4
    go_wp2_with fail
    refine (light_yes p n cap _ (by omega)).mono ?_
    rintro e w2 ⟨rfl, rfl⟩
    go_wp2_with fail
    refine (roll_any p n cap _).mono ?_
    rintro e w3 ⟨rfl, rfl⟩
    go_wp2_with fail
    generalize hd : (⟨w2.heap.size, p, n, cap⟩ : Dice) = d at *
    have hdD : w2.heap.size = d.D := by rw [← hd]
    rw [hdD]
    have HB3 : Hid (Below w2.heap.size w2 (w2.alloc (.cells #[.slice p n cap, .int .i64 0] 67))) := below_box w2 _
    have HNO : Hid ((w2.alloc (.cells #[.slice p n cap, .int .i64 0] 67)).cell? ⟨d.D, 2, none⟩ = none) := by rw [← hdD]; exact (by rw [Lib.cell_of_heap (heap_alloc_new w2 _)]; rfl)
    have HSZ3 : Hid ((w2.alloc (.cells #[.slice p n cap, .int .i64 0] 67)).heap.size = d.D + 1) := by rw [← hdD]; exact World.size_alloc _ _
    have HD2 := Lib.hid hdD
    clear hdD
    generalize w2.alloc (.cells #[.slice p n cap, .int .i64 0] 67) = w3 at *
    have HD3 : Hid (w2.heap.size ≤ d.D) := Nat.le_of_eq HD2.out
    have HD4 : Hid (d.D < w3.heap.size) := World.block_lt_of_cell? w3 _ HDW.out.1.at_
    have HG3 := Lib.hid HDW.out.1
    have HTX := Lib.hid (thrown_alloc HG3.out (.cells #[.int .i64 1, .slice none 0 0] idsT))
    have HBX : Hid ((w3.alloc (.cells #[.int .i64 1, .slice none 0 0] idsT)).heap[w3.heap.size]? = some (.cells #[.int .i64 1, .slice none 0 0] idsT (0, 0))) := heap_alloc_new w3 _
    clear HDW hd
    refine (next_any d 8 _ HTX.out.good (by omega) (by omega)).mono ?_
    rintro e w4 ⟨k0, hk0, rfl, ht4, -⟩
    have H0 : Hid (St5 d w3 w4 w3.heap.size 1 none 0 0 [] 0) := ⟨HTX.out.trans ht4, by rw [ht4.but.block w3.heap.size (Array.getElem?_eq_some_iff.1 HBX.out).1 (fun a ha q => by unfold isAt at q; subst q; have := HD4.out; simp only at ha; omega)]; exact HBX.out, c5z, fun y hy => (by cases hy), by simp, by omega, by omega, SlIs.isNil _ _⟩
    clear ht4 HTX HBX
    rw [HSZ3.out] at H0
    generalize d.D + 1 = X at *
    have HX := HSZ3
    clear HSZ3
    go_wp2_with fail
    go_loopw [5, 6] (fun last i wr => ∃ (a k : Nat) (next : Int) (q : Option Addr) (m c : Nat) (E : List En), a + k ≤ 7 ∧ i = .int .i64 a ∧ last = .int .i64 (next - 1) ∧ Hid (St5 d w3 wr X next q m c E k)) (fun _ i _ => (intOf i).toNat)
    case atStart => exact ⟨k0, 0, 1, none, 0, 0, [], by omega, rfl, by simp, H0⟩
    case round =>
      obtain ⟨a, k, next, q, m, c, E, hak, rfl, rfl, HS⟩ := hrel
      clear H0
      obtain ⟨wA, rfl⟩ : ∃ x, x = wr := ⟨wr, rfl⟩
      by_cases ha : 0 < a
      · have hai : (0 : Int) < a := by omega
        have hlenE := HS.out.len
        have hXL := heap_lt5 HS.out.box
        have HXL := Lib.hid hXL
        have HXD : Hid (X ≠ d.D) := by have := HD4.out; have h2 := HX.out; unfold Hid; omega
        have HNA : Hid (wA.cell? ⟨d.D, 2, none⟩ = none) := (HS.out.thrown.but.cell _ (by have h1 := HD4.out; exact h1) (fun q => by unfold isAt at q; cases q)).trans HNO.out
        clear hXL
        go_wp2_with (first
          | (go_at_call 13; refine (items_any d wA HS.out.thrown.good).mono ?_; rintro e w4 ⟨v, l, rfl, hm, ho, ht⟩; have HM := Lib.hid hm; have HT4 := Lib.hid ht; have HO := Lib.hid ho.sl; clear hm ho ht; have HBX4 : Hid (w4.heap[X]? = some (.cells #[.int .i64 next, .slice q m c] idsT (0, 0))) := (HT4.out.but.block X HXL.out (fun a ha e => by unfold isAt at e; subst e; exact HXD.out ha.symm)).trans HS.out.box; have HE4 := Lib.hid (sl_thrown HS.out.sl HS.out.thrown.good HNA.out HT4.out); obtain ⟨u0, u1⟩ := en2 (box_cells HBX4.out); obtain ⟨p4, c4, rfl, hp41, hp42, hp43⟩ := HO.out)
          | fail)
        have hN8 := HM.out.len
        have hst := stay_round HS.out.chk (by have h1 := HS.out.high; have h2 := HS.out.few; omega) HM.out
        have HU1 := Lib.hid (updateOk_any next q m c E p4 l.length c4 l w4 HS.out.chk HM.out.asc HE4.out HS.out.fits (by omega) ⟨p4, c4, rfl, hp41, hp42, hp43⟩ HM.out.fits (by omega) (by have h1 := HS.out.high; have h2 := HS.out.few; have h3 := hst.high; omega))
        have HO4 : Hid (SlIs encIt w4 (.slice p4 l.length c4) l) := ⟨p4, c4, rfl, hp41, hp42, hp43⟩
        have hfe1 : FitsE (byId (given next E l)) := fits_made HM.out hst.chk (by have h1 := HS.out.high; have h2 := HS.out.few; have h3 := hst.high; omega) hst.mem
        have hnn : ¬ nextV next E l < next := by have := hst.low; omega
        have hn1 : nextV next E l ≤ 1000 := by have h1 := HS.out.high; have h2 := HS.out.few; have h3 := hst.high; omega
        have HAG : Hid (∀ (W : World) (q6 : Option Addr) (m6 c6 : Nat), SlIs encEn W (.slice q6 m6 c6) (byId (given next E l)) → SlIs encIt W (.slice p4 l.length c4) l → Calls Try.prog 16 #[.agg #[.int .i64 (nextV next E l), .slice q6 m6 c6], .slice p4 l.length c4] W fun e w' => ∃ q m c, e = .returned (.tuple #[.agg #[.int .i64 (nextV next E l), .slice q m c], .int .i64 0]) ∧ SlIs encEn w' (.slice q m c) (byId (given next E l)) ∧ Below W.heap.size W w') := fun W q6 m6 c6 h6 h7 => by
          have h := updateOk_any (nextV next E l) q6 m6 c6 (byId (given next E l)) p4 l.length c4 l W hst.chk HM.out.asc h6 hfe1 (by rw [hst.len]; omega) h7 HM.out.fits (by omega) (by rw [hst.again.2]; omega)
          rw [hst.again.1, hst.again.2] at h
          exact h
        have hE1 := hst.len
        have HST := Lib.hid hst
        have HFE1 := Lib.hid hfe1
        clear hst hfe1 hp41 hp42 hp43 HO
        generalize nextV next E l = n1 at *
        generalize byId (given next E l) = E1 at *
        generalize hN : l.length = N at *
        have HN := Lib.hid hN
        have HE1 := Lib.hid hE1
        clear hN hE1
        go_wp2_with (first
          | (go_at_call 16; refine HU1.out.mono ?_; rintro e w6 ⟨q6, m6, c6, rfl, hs6, hb6⟩; obtain rfl : m6 = N := (by have h1 := (hs6.lies).1; have h2 := HE1.out; omega); have HS6 := Lib.hid hs6; have HB6 := Lib.hid (hb6.trans ((below_box w6 (.cells #[.int .i64 n1, .slice q6 m6 c6] idsT)).mono hb6.size)); have HS7 := Lib.hid (hs6.below (below_box w6 (.cells #[.int .i64 n1, .slice q6 m6 c6] idsT))); have HO7 := Lib.hid (HO4.out.below HB6.out); have HX7 := Lib.hid (heap_alloc_new w6 (.cells #[.int .i64 n1, .slice q6 m6 c6] idsT)); clear hs6 hb6 HU1 u0 u1 HO4; obtain ⟨u0, u1⟩ := en2 (box_cells HX7.out))
          | (go_at_call 16; refine (HAG.out _ _ _ _ HS7.out HO7.out).mono ?_; rintro e w8 ⟨q8, m8, c8, rfl, hs8, hb8⟩; have HB9 := Lib.hid (hb8.trans ((below_box w8 (.cells #[.int .i64 n1, .slice q8 m8 c8] idsT)).mono hb8.size)); have HT9 := Lib.hid (hs8.below (below_box w8 (.cells #[.int .i64 n1, .slice q8 m8 c8] idsT))); have HS9 := Lib.hid (HS7.out.below HB9.out); have HX9 := Lib.hid (box_kept HX7.out HB9.out); have HY9 := Lib.hid (heap_alloc_new w8 (.cells #[.int .i64 n1, .slice q8 m8 c8] idsT)); clear hs8 hb8 u0 u1 HS7 HO7 HAG; obtain ⟨u0, u1⟩ := en2 (box_cells HX9.out); obtain ⟨z0, z1⟩ := en2 (box_cells HY9.out); have HCK := Lib.hid (checkOk_any n1 q6 m6 c6 E1 _ (by have := HE1.out; omega) HS9.out HFE1.out HST.out.chk))
          | (go_at_call 17; refine HCK.out.mono ?_; rintro e w10 ⟨rfl, hb10⟩; have HB10 := Lib.hid hb10; have HX10 := Lib.hid (box_kept HX9.out hb10); have HY10 := Lib.hid (box_kept HY9.out hb10); have HS10 := Lib.hid (HS9.out.below hb10); have HT10 := Lib.hid (HT9.out.below hb10); clear hb10 HCK u0 u1 z0 z1 HX9 HY9 HS9 HT9; obtain ⟨u0, u1⟩ := en2 (box_cells HX10.out); obtain ⟨z0, z1⟩ := en2 (box_cells HY10.out); have HSM := Lib.hid (same_eq n1 q6 m6 c6 q8 m8 c8 E1 _ (by have := HE1.out; omega) HS10.out HT10.out))
          | (go_at_call 18; refine HSM.out.mono ?_; rintro e w11 ⟨rfl, hb11⟩; have HB11 := Lib.hid hb11; have HX11 := Lib.hid (box_kept HX10.out hb11); have HS11 := Lib.hid (HS10.out.below hb11); clear hb11 HSM u0 u1 z0 z1 HX10 HY10 HS10 HT10; obtain ⟨u0, u1⟩ := en2 (box_cells HX11.out); have HBX11 : Hid (w11.heap[X]? = some (.cells #[.int .i64 next, .slice q m c] idsT (0, 0))) := box_kept (box_kept (box_kept (box_kept HBX4.out HB6.out) HB9.out) HB10.out) HB11.out; obtain ⟨z0, z1⟩ := en2 (box_cells HBX11.out); have HE11 := Lib.hid ((((HE4.out.below HB6.out).below HB9.out).below HB10.out).below HB11.out); have HB411 := Lib.hid (bnext (bnext (bnext HB6.out HB9.out) HB10.out) HB11.out); clear HE4 HBX4 HB6 HB9 HB10 HB11)
          | fail)
        generalize w6.heap.size = Y at *
        generalize w8.heap.size = Z at *
        clear u0 u1 z0 z1
        have hmE : m = E.length := (HE11.out.lies).1
        have hm8 : (m : Int) ≤ 8 := by omega
        have HME := Lib.hid hmE
        clear hmE hlenE
        go_loopw [12] (fun j wr => ∃ jn : Nat, jn ≤ m ∧ j = .int .i64 jn ∧ Hid (Below w11.heap.size w11 wr)) (fun j _ => m - (intOf j).toNat)
        case atStart => exact ⟨0, Nat.zero_le _, rfl, Below.refl _ _⟩
        case round =>
          obtain ⟨j, hj, rfl, hb⟩ := hrel
          obtain ⟨wB, rfl⟩ : ∃ x, x = wr := ⟨wr, rfl⟩
          obtain ⟨u0, u1⟩ := en2 (box_cells (box_kept HBX11.out hb.out))
          by_cases hlt : j < m
          · obtain ⟨bE, off, rfl, hca⟩ := (HE11.out.lies).2.2.2 (by omega)
            have hjl : j < E.length := by rw [← HME.out]; exact hlt
            obtain ⟨c0, c1, c2, c3⟩ := enAt (hca.below hb.out) j hjl
            have hmem : E.getD j en0 ∈ E := by simp [List.getD, List.getElem?_eq_getElem hjl]
            have hfd := HST.out.find _ hmem
            generalize E.getD j en0 = x at *
            obtain ⟨i, mo, nm, s⟩ := x
            have HC := Lib.hid (cellsAt_alloc wB [.int .i64 i, .string mo, .string nm, .string s] 39)
            have HBN := Lib.hid (hb.out.trans ((below_box wB (.cells #[.int .i64 i, .string mo, .string nm, .string s] 39)).mono hb.out.size))
            have HFN := Lib.hid (find_any n1 q6 m6 c6 E1 mo nm (wB.alloc (.cells #[.int .i64 i, .string mo, .string nm, .string s] 39)) (by have := HE1.out; omega) (HS11.out.below HBN.out))
            obtain ⟨y0, y1⟩ := en2 (box_cells (box_kept HX11.out HBN.out))
            obtain ⟨x0, x1, x2, x3⟩ := en4 HC.out
            clear hca hmem hjl
            have hfd' : foundV E1 (mo, nm) = _ ∨ foundV E1 (mo, nm) = _ := hfd
            rcases hfd' with hf | hf
            all_goals (
              rw [hf] at HFN
              clear hf hfd
              go_wp2_with (first
                | (go_at_call 19; refine HFN.out.mono ?_; rintro e w12 ⟨rfl, hb12⟩; have HB12 := Lib.hid (bnext HBN.out hb12); obtain ⟨v0, v1, v2, v3⟩ := en4 (HC.out.below hb12); clear hb12 HFN x0 x1 x2 x3 y0 y1 u0 u1)
                | fail)
              go_roundw
              case rel => exact ⟨j + 1, by omega, by go_num, HB12⟩
              case measure => simp [intOf]; omega)
          · have hje : j = m := by omega
            subst hje
            have HW12 : Hid (Below w4.heap.size w4 wB) := bnext HB411.out hb.out
            have HX12 := Lib.hid (box_kept HX11.out hb.out)
            have HBX12 := Lib.hid (box_kept HBX11.out hb.out)
            have HS12 := Lib.hid (HS11.out.below hb.out)
            obtain ⟨y0, y1⟩ := en2 (box_cells HX12.out)
            clear hb HE11 HS11 HX11 HBX11 HB411
            go_wp2_with fail
            clear u0 u1 y0 y1
            go_loopw [16] (fun j wr => ∃ jn : Nat, jn ≤ m6 ∧ j = .int .i64 jn ∧ wr = wB) (fun j _ => m6 - (intOf j).toNat)
            case atStart => exact ⟨0, Nat.zero_le _, rfl, rfl⟩
            case round =>
              obtain ⟨j, hj, rfl, hw⟩ := hrel
              subst hw
              obtain ⟨u0, u1⟩ := en2 (box_cells HBX12.out)
              obtain ⟨y0, y1⟩ := en2 (box_cells HX12.out)
              by_cases hlt : j < m6
              · obtain ⟨bE, off, rfl, hca⟩ := (HS12.out.lies).2.2.2 (by omega)
                have hjl : j < E1.length := by have := HE1.out; omega
                obtain ⟨c0, c1, c2, c3⟩ := enAt hca j hjl
                have hpos := HST.out.chk.pos (E1.getD j en0) (by simp [List.getD, List.getElem?_eq_getElem hjl])
                generalize E1.getD j en0 = x at *
                obtain ⟨i, mo, nm, s⟩ := x
                have hi1 : 1 ≤ i := hpos.1
                have hi2 : i < n1 := hpos.2
                clear hca hpos hjl
                by_cases hge : next ≤ i
                · have hle : ¬ i ≤ next - 1 := by omega
                  go_wp2_with fail
                  go_roundw
                  case rel => exact ⟨j + 1, by omega, by go_num, by first | rfl | trivial⟩
                  case measure => simp [intOf]; omega
                · go_wp2_with fail
                  go_roundw
                  case rel => exact ⟨j + 1, by omega, by go_num, by first | rfl | trivial⟩
                  case measure => simp [intOf]; omega
              · have hje : j = m6 := by omega
                subst hje
                have hn1a : 1 ≤ n1 := HST.out.chk.low
                have hwr1 : IntKind.i64.wrap (n1 - 1) = n1 - 1 := IntWalk.i64_in _ (by omega)
                have hwr2 : IntKind.i64.wrap ((a : Int) - 1) = (a : Int) - 1 := IntWalk.i64_in _ (by omega)
                have f0 : ∀ i, wr.frozen? ⟨X, i, none⟩ = false := fun i => Lib.frozen_of_heap HBX12.out i
                go_wp2_with fail
                go_roundw
                case rel =>
                  refine ⟨a - 1, k + 1, n1, q6, j, c6, E1, by omega, by go_num, rfl, ?_⟩
                  have hXX : w3.heap.size ≤ X := Nat.le_of_eq HX.out
                  have e1 := heap_setCell_same _ _ 0 _ _ (.int .i64 n1) HBX12.out
                  have e2 := heap_setCell_same _ _ 1 _ _ (.slice q6 j c6) e1
                  have b1 : Below w3.heap.size wr (wr.setCell ⟨X, 0, none⟩ (.int .i64 n1)) := (Below.refl _ _).setCell (p := ⟨X, 0, none⟩) hXX _
                  have b2 := b1.setCell (p := ⟨X, 1, none⟩) hXX (.slice q6 j c6)
                  have b4 : Below w3.heap.size w4 wr := HW12.out.mono (by have h1 := HS.out.thrown.but.size; have h2 := HT4.out.but.size; omega)
                  have hh := HS.out.high
                  have hh2 := HST.out.high
                  exact ⟨thrown_base HG3.out (HS.out.thrown.trans HT4.out) (b4.trans b2), e2, HST.out.chk, HFE1.out, by have := HE1.out; omega, by omega, by omega, SlIs.aside (SlIs.aside HS12.out ⟨_, _, _, HBX12.out, rfl⟩ 0 _) ⟨_, _, _, e1, rfl⟩ 1 _⟩
                case measure => simp [intOf]; omega
      · have : a = 0 := by omega
        subst this
        go_wp2_with fail
        refine (awake_any _).mono ?_
        rintro e w5 ⟨rfl, hb5⟩
        have HBZ := Lib.hid ((base_thrown HB3.out HS.out.thrown HD3.out).trans (hb5.mono (by have := (base_thrown HB3.out HS.out.thrown HD3.out).size; omega)))
        clear hb5
        go_wp2_with fail
        go_ret
        exact ⟨rfl, HBZ.out⟩
end Go.Proofs.Ytcplhnpblpmalaa.Idn
