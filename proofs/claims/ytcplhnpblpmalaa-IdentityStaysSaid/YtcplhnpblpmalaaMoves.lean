/-
  CONTRACTS: identity.Moves.
-/
import Derived.Test.YtcplhnpblpmalaaById
namespace Go.Proofs.Ytcplhnpblpmalaa.Idn
open Go Go.RowKit Go.Maps
set_option linter.unusedVariables false
set_option maxRecDepth 1000000
set_option linter.unusedSimpArgs false

theorem moved_bi (old : List En) (y : En) : movedB old y = match biF old y.1 with | some d => !decide (d = dfn y.2) | none => false := by
  unfold movedB biF
  cases old.find? (fun z => decide (z.1 = y.1)) <;> rfl
theorem info_enE : (Try.prog.info? 39).map (fun i => (i.zero, i.size, i.bytes)) = some (some (.agg #[.int .i64 0, .string ⟨#[]⟩, .string ⟨#[]⟩, .string ⟨#[]⟩]), encEn.size, 56) := info_en
theorem moves_snoc (old A : List En) (y : En) : movesV old (A ++ [y]) = if movedB old y = true then movesV old A ++ [y] else movesV old A := by
  unfold movesV
  rw [List.filter_append]
  by_cases h : movedB old y = true
  · rw [if_pos h, List.filter_cons_of_pos h]; rfl
  · rw [if_neg h, List.filter_cons_of_neg h]; simp

set_option maxHeartbeats 4000000 in
set_option maxRecDepth 1000000 in
theorem moves_any (nx0 : Int) (p0 : Option Addr) (n0 cap0 : Nat) (old : List En) (nx : Int) (p : Option Addr) (n cap : Nat) (L : List En) (w : World) (hc0 : old.length ≤ 1000) (hs0 : SlIs encEn w (.slice p0 n0 cap0) old) (hf0 : FitsE old) (hc : L.length ≤ 1000) (hs : SlIs encEn w (.slice p n cap) L) (hf : FitsE L) :
    Calls Try.prog 31 #[.agg #[.int .i64 nx0, .slice p0 n0 cap0], .agg #[.int .i64 nx, .slice p n cap]] w fun e w' => ∃ v, e = .returned v ∧ SlIs encEn w' v (movesV old L) ∧ Below w.heap.size w w' := by
  obtain ⟨hn, hc1, hc2, hlies⟩ := hs.lies
  have hnb : (n : Int) ≤ 1000 := by omega
  have Hn := Lib.hid hn
  have HF := Lib.hid hf
  have HC := Lib.hid hc
  have HW0 : Hid (Below w.heap.size w ((w.alloc (.cells #[.int .i64 nx0, .slice p0 n0 cap0] 29)).alloc (.cells #[.int .i64 nx, .slice p n cap] 29))) := bnext (below_box w _) (below_box _ _)
  have HS0 := Lib.hid (hs0.below HW0.out)
  have HBY := Lib.hid (byID_any p0 n0 cap0 old ((w.alloc (.cells #[.int .i64 nx0, .slice p0 n0 cap0] 29)).alloc (.cells #[.int .i64 nx, .slice p n cap] 29)) (by omega) HS0.out hf0)
  have HQ0 := Lib.hid ((cellsAt_alloc (w.alloc (.cells #[.int .i64 nx0, .slice p0 n0 cap0] 29)) [.int .i64 nx, .slice p n cap] 29))
  simp only [World.size_alloc] at HQ0
  clear hn hs hc hf hc0 hs0 hf0
  have hlies1 : Hid (∀ w', Below w.heap.size w w' → 0 < n → ∃ b off, p = some ⟨b, off, none⟩ ∧ CellsAt w' b off (encEn.all L)) := fun w' hb h => by obtain ⟨b, off, e, hcl⟩ := hlies h; exact ⟨b, off, e, hcl.below hb⟩
  clear hlies
  go_enter Try.func31, Try.ntmps31
  go_wp2_with (first
    | (go_at_call 53; refine (HBY.out).mono ?_; rintro e w1 ⟨mb, cnt, rfl, hb1, hb2, hm1⟩; have HB1 := Lib.hid (bnext HW0.out hb1); have HM1 := Lib.hid hm1; obtain ⟨q0, q1⟩ := en2 (HQ0.out.below hb1); clear hb1 hb2 hm1 HBY HQ0)
    | go_in)
  clear HS0 HW0
  go_loopw [6, 17] (fun o i wr => ∃ (j : Nat) (D : List En), j ≤ n ∧ D.length ≤ j ∧ True ∧ i = .int .i64 j ∧ Hid (Below w1.heap.size w1 wr) ∧ Hid (OwnL encEn 39 wr w1.heap.size o D) ∧ Hid (D = movesV old (L.take j))) (fun _ i _ => n - (intOf i).toNat)
  case atStart => exact ⟨0, [], Nat.zero_le _, Nat.le_refl _, trivial, rfl, Below.refl _ _, OwnL.isNil _ _ _ _, rfl⟩
  case round =>
    obtain ⟨j, D, hj, hD, -, rfl, hb, ho, he⟩ := hrel
    by_cases hlt : j < n
    · obtain ⟨b, off, rfl, hcells0⟩ := hlies1.out wr (bnext HB1.out hb.out) (by omega)
      have hjl : j < L.length := by rw [← Hn.out]; exact hlt
      obtain ⟨c0, c1, c2, c3⟩ := enAt hcells0 j hjl
      have HT : Hid (movesV old (L.take (j + 1)) = if movedB old (L.getD j en0) = true then movesV old (L.take j) ++ [L.getD j en0] else movesV old (L.take j)) := by rw [Hid, take_one L en0 j hjl]; exact moves_snoc old (L.take j) (L.getD j en0)
      have HFJ := Lib.hid (fitE_at HF.out j hjl)
      have HMB := Lib.hid (moved_bi old (L.getD j en0))
      generalize L.getD j en0 = x at *
      obtain ⟨i, m, nm, s⟩ := x
      have R1 : Hid (D.length + [(i, m, nm, s)].length ≤ maxLen) := by have := HC.out; have := Hn.out; unfold Hid maxLen; simp; omega
      have R2 : Hid ((D.length + [(i, m, nm, s)].length) * 56 ≤ 140737488355328) := by have := HC.out; have := Hn.out; unfold Hid; simp; omega
      clear hcells0 hjl
      have HX0 := Lib.hid ((cellsAt_alloc wr [.int .i64 i, .string m, .string nm, .string s] 39))
      have HM := Lib.hid ((HM1.out.below hb.out HM1.out.lt).alloc (.cells #[.int .i64 i, .string m, .string nm, .string s] 39))
      obtain ⟨f1, f4⟩ := HFJ.out
      obtain ⟨⟨dm, dn⟩, hlk, hd⟩ := look_bi HM.out i f4
      have HD := Lib.hid hd
      have HB2 := Lib.hid (hb.out.trans ((bnext (below_box wr (.cells #[.int .i64 i, .string m, .string nm, .string s] 39)) (below_box (wr.alloc (.cells #[.int .i64 i, .string m, .string nm, .string s] 39)) (.cells #[.string dm, .string dn] 77))).mono hb.out.size))
      have HO2 := Lib.hid (ho.out.below (bnext (below_box wr (.cells #[.int .i64 i, .string m, .string nm, .string s] 39)) (below_box (wr.alloc (.cells #[.int .i64 i, .string m, .string nm, .string s] 39)) (.cells #[.string dm, .string dn] 77))))
      have HX1 := Lib.hid (HX0.out.below (below_box (wr.alloc (.cells #[.int .i64 i, .string m, .string nm, .string s] 39)) (.cells #[.string dm, .string dn] 77)))
      have HY1 := Lib.hid (cellsAt_alloc (wr.alloc (.cells #[.int .i64 i, .string m, .string nm, .string s] 39)) [.string dm, .string dn] 77)
      clear hb ho hd HX0 HM f1 f4 HFJ
      cases hsome : biF old i with
      | none =>
        rw [hsome] at hlk
        simp only [Option.isSome_none] at hlk
        have HE : Hid (D = movesV old (L.take (j + 1))) := by rw [Hid, HT.out, if_neg (by rw [HMB.out]; simp only [hsome]; exact Bool.false_ne_true)]; exact he.out
        clear HT HMB HD hsome he
        go_wp2_with fail
        clear hlk
        generalize (wr.alloc (.cells #[.int .i64 i, .string m, .string nm, .string s] 39)).alloc (.cells #[.string dm, .string dn] 77) = wx at *
        have HX := Lib.hid HX1.out.drew1
        have HY := Lib.hid HY1.out.drew1
        simp only [World.size_alloc] at HY
        generalize wr.heap.size + 1 = yb at *
        generalize wr.heap.size = xb at *
        clear HX1 HY1
        apply wp_region_relT LeW.refl LeW.trans 7
        case hm => kernel_rfl
        case hB => kernel_rfl
        simp only [List.take_succ_cons, List.take_zero, List.drop_succ_cons, List.drop_zero]
        apply wpRel_cons (t := tyIs _ _)
        case h1 => (intro w' hl hd2; clear hl hd2; unfold relAt; go_simp; exact rel_is LeW.refl)
        intro _
        rw [tyIs_f]
        go_simp
        apply wpRel_cons (t := tyIs _ _)
        case h1 => (intro w' hl hd2; clear hl hd2; unfold relAt; go_simp; exact rel_is LeW.refl)
        intro _
        rw [tyIs_f]
        go_simp
        apply wpRel_cons (t := tyIs _ undef)
        case h1 => (intro w' hl hd2; clear hl hd2; unfold relAt; go_simp; exact ⟨(), rfl, trivial⟩)
        intro _
        rw [tyIs_f]
        go_simp
        apply wpRel_cons (t := tyIs _ undef)
        case h1 => (intro w' hl hd2; clear hl hd2; unfold relAt; go_simp; exact ⟨(), rfl, trivial⟩)
        intro _
        rw [tyIs_f]
        go_simp
        apply wpRel_cons (t := tyIs _ undef)
        case h1 => (intro w' hl hd2; clear hl hd2; unfold relAt; go_simp; exact ⟨(), rfl, trivial⟩)
        intro _
        rw [tyIs_f]
        go_simp
        apply wpRel_cons (t := tyIs _ undef)
        case h1 => (intro w' hl hd2; clear hl hd2; unfold relAt; go_simp; exact ⟨(), rfl, trivial⟩)
        intro _
        rw [tyIs_f]
        go_simp
        apply wpRel_cons (t := tyIs _ undef)
        case h1 => (intro w' hl hd2; clear hl hd2; unfold relAt; go_simp; exact ⟨(), rfl, trivial⟩)
        intro _
        rw [tyIs_f]
        go_simp
        apply wpRel_nil (Ts := [])
        intro w4 hl hF
        have hl1 : Below wx.heap.size wx w4 := bnext ((Below.refl _ wx).drew) hl
        have HB4 := Lib.hid (HB2.out.trans (hl1.mono HB2.out.size))
        have HO4 := Lib.hid (HO2.out.below hl1)
        obtain ⟨x0, x1, x2, x3⟩ := en4 (HX.out.below hl)
        clear hl hl1 hF HX HY HB2 HO2
        go_wp2_with fail
        go_roundw
        case rel => exact ⟨j + 1, D, by omega, by omega, trivial, by go_num, HB4, HO4, HE⟩
        case measure => simp [intOf]; omega
      | some d0 =>
        obtain rfl : (dm, dn) = d0 := HD.out d0 hsome
        rw [hsome] at hlk
        simp only [Option.isSome_some] at hlk
        have HMV : Hid (movedB old (i, m, nm, s) = !decide ((dm, dn) = (m, nm))) := by rw [Hid, HMB.out]; simp only [hsome]; rfl
        clear HMB HD hsome
        by_cases e1 : (dm, dn) = (m, nm)
        · have HE : Hid (D = movesV old (L.take (j + 1))) := by rw [Hid, HT.out, if_neg (by rw [HMV.out, decide_eq_true e1]; exact Bool.false_ne_true)]; exact he.out
          obtain ⟨rfl, rfl⟩ := Prod.mk.inj e1
          clear HT HMV he e1
          go_wp2_with fail
          clear hlk
          generalize hwx : (wr.alloc (.cells #[.int .i64 i, .string dm, .string dn, .string s] 39)).alloc (.cells #[.string dm, .string dn] 77) = wx at *
          have HX := Lib.hid HX1.out.drew1
          have HY := Lib.hid HY1.out.drew1
          simp only [World.size_alloc] at HY
          generalize wr.heap.size + 1 = yb at *
          generalize wr.heap.size = xb at *
          clear HX1 HY1
          apply wp_region_relT LeW.refl LeW.trans 7
          case hm => kernel_rfl
          case hB => kernel_rfl
          simp only [List.take_succ_cons, List.take_zero, List.drop_succ_cons, List.drop_zero]
          apply wpRel_cons (t := tyIs _ _)
          case h1 => (intro w' hl hd2; clear hl hd2; unfold relAt; go_simp; exact rel_is LeW.refl)
          intro _
          rw [tyIs_f]
          go_simp
          apply wpRel_cons (t := tyIs _ _)
          case h1 => (intro w' hl hd2; clear hl hd2; unfold relAt; go_simp; exact rel_is LeW.refl)
          intro _
          rw [tyIs_f]
          go_simp
          apply wpRel_cons (t := tyIs _ _)
          case h1 => (intro w' hl hd2; obtain ⟨y0, y1⟩ := en2 (HY.out.below hl); clear hl hd2; unfold relAt; go_simp; exact rel_is LeW.refl)
          intro _
          rw [tyIs_f]
          go_simp
          apply wpRel_cons (t := tyIs _ _)
          case h1 => (intro w' hl hd2; obtain ⟨x0, x1, x2, x3⟩ := en4 (HX.out.below hl); clear hl hd2; unfold relAt; go_simp; exact rel_is LeW.refl)
          intro _
          rw [tyIs_f]
          go_simp
          apply wpRel_cons (t := tyIs _ _)
          case h1 => (intro w' hl hd2; obtain ⟨x0, x1, x2, x3⟩ := en4 (HX.out.below hl); clear hl hd2; unfold relAt; go_simp; exact rel_is LeW.refl)
          intro _
          rw [tyIs_f]
          go_simp
          apply wpRel_cons (t := tyIs _ (.agg #[.string dm, .string dn]))
          case h1 => (intro w' hl hd2; clear hl hd2; unfold relAt; go_simp; refine ⟨LeW.refl _, ?_⟩; refine (definitionOf_any (dm, dn, s) _).mono ?_; rintro e w'' ⟨rfl, hb''⟩; exact ⟨(), rfl, hb'', trivial⟩)
          intro _
          rw [tyIs_f]
          go_simp
          apply wpRel_cons (t := tyIs _ _)
          case h1 => (intro w' hl hd2; clear hl hd2; unfold relAt; go_simp; exact rel_is LeW.refl)
          intro _
          rw [tyIs_f]
          go_simp
          apply wpRel_nil (Ts := [])
          intro w4 hl hF
          have hl1 : Below wx.heap.size wx w4 := bnext ((Below.refl _ wx).drew) hl
          have HB4 := Lib.hid (HB2.out.trans (hl1.mono HB2.out.size))
          have HO4 := Lib.hid (HO2.out.below hl1)
          obtain ⟨x0, x1, x2, x3⟩ := en4 (HX.out.below hl)
          clear hl hl1 hF HX HY HB2 HO2
          go_wp2_with fail
          go_roundw
          case rel => exact ⟨j + 1, D, by omega, by omega, trivial, by go_num, HB4, HO4, HE⟩
          case measure => simp [intOf]; omega
        · have HE : Hid (D ++ [(i, m, nm, s)] = movesV old (L.take (j + 1))) := by rw [Hid, HT.out, if_pos (by rw [HMV.out, decide_eq_false e1]; rfl), ← he.out]
          clear HT HMV he
          by_cases e2 : dm = m
          · have q := bytes_ne (show dn ≠ nm from fun e3 => e1 (by rw [e2, e3]))
            subst e2
            clear e1
            go_wp2_with fail
            clear hlk
            generalize (wr.alloc (.cells #[.int .i64 i, .string dm, .string nm, .string s] 39)).alloc (.cells #[.string dm, .string dn] 77) = wx at *
            have HX := Lib.hid HX1.out.drew1
            have HY := Lib.hid HY1.out.drew1
            simp only [World.size_alloc] at HY
            generalize wr.heap.size + 1 = yb at *
            generalize wr.heap.size = xb at *
            clear HX1 HY1
            apply wp_region_relT LeW.refl LeW.trans 7
            case hm => kernel_rfl
            case hB => kernel_rfl
            simp only [List.take_succ_cons, List.take_zero, List.drop_succ_cons, List.drop_zero]
            apply wpRel_cons (t := tyIs _ _)
            case h1 => (intro w' hl hd2; clear hl hd2; unfold relAt; go_simp; exact rel_is LeW.refl)
            intro _
            rw [tyIs_f]
            go_simp
            apply wpRel_cons (t := tyIs _ _)
            case h1 => (intro w' hl hd2; clear hl hd2; unfold relAt; go_simp; exact rel_is LeW.refl)
            intro _
            rw [tyIs_f]
            go_simp
            apply wpRel_cons (t := tyIs _ _)
            case h1 => (intro w' hl hd2; obtain ⟨y0, y1⟩ := en2 (HY.out.below hl); clear hl hd2; unfold relAt; go_simp; exact rel_is LeW.refl)
            intro _
            rw [tyIs_f]
            go_simp
            apply wpRel_cons (t := tyIs _ _)
            case h1 => (intro w' hl hd2; obtain ⟨x0, x1, x2, x3⟩ := en4 (HX.out.below hl); clear hl hd2; unfold relAt; go_simp; exact rel_is LeW.refl)
            intro _
            rw [tyIs_f]
            go_simp
            apply wpRel_cons (t := tyIs _ _)
            case h1 => (intro w' hl hd2; obtain ⟨x0, x1, x2, x3⟩ := en4 (HX.out.below hl); clear hl hd2; unfold relAt; go_simp; exact rel_is LeW.refl)
            intro _
            rw [tyIs_f]
            go_simp
            apply wpRel_cons (t := tyIs _ (.agg #[.string dm, .string nm]))
            case h1 => (intro w' hl hd2; clear hl hd2; unfold relAt; go_simp; refine ⟨LeW.refl _, ?_⟩; refine (definitionOf_any (dm, nm, s) _).mono ?_; rintro e w'' ⟨rfl, hb''⟩; exact ⟨(), rfl, hb'', trivial⟩)
            intro _
            rw [tyIs_f]
            go_simp
            apply wpRel_cons (t := tyIs _ _)
            case h1 => (intro w' hl hd2; clear hl hd2; unfold relAt; go_simp; exact rel_is LeW.refl)
            intro _
            rw [tyIs_f]
            go_simp
            apply wpRel_nil (Ts := [])
            intro w4 hl hF
            have hl1 : Below wx.heap.size wx w4 := bnext ((Below.refl _ wx).drew) hl
            have HB4 := Lib.hid (HB2.out.trans (hl1.mono HB2.out.size))
            have HO4 := Lib.hid (HO2.out.below hl1)
            obtain ⟨x0, x1, x2, x3⟩ := en4 (HX.out.below hl)
            clear hl hl1 hF HX HY HB2 HO2
            have HLS : Hid (CellsAt (w4.alloc (.cells #[.int .i64 i, .string dm, .string nm, .string s] 39)) w4.heap.size 0 (encEn.all [(i, dm, nm, s)])) := cellsAt_alloc w4 [.int .i64 i, .string dm, .string nm, .string s] _
            have HBS : Hid (w1.heap.size ≤ (w4.alloc (.cells #[.int .i64 i, .string dm, .string nm, .string s] 39)).heap.size) := Nat.le_trans HB4.out.size (below_box w4 _).size
            have HOA := Lib.hid (HO4.out.alloc (.cells #[.int .i64 i, .string dm, .string nm, .string s] 39))
            go_wp2_with (at_builtin; refine wpList_appendL (E := encEn) Try.underlying27 info_enE ?_ rfl (.tmp 36) (.tmp 38) rfl w1.heap.size u6 D ?_ ?_ (some ⟨w4.heap.size, 0, none⟩) 1 1 [(i, dm, nm, s)] ?_ ?_ ?_ ?_ ?_ ?_ ?_ ?_)
            · rfl
            · rfl
            · exact HOA.out
            · rfl
            · rfl
            · exact fun _ => ⟨_, 0, rfl, HLS.out⟩
            · exact fun h => by cases h
            · exact R1
            · exact R2
            · exact HBS.out
            intro out2 w5 hown2 hb2
            have HB5 := Lib.hid (HB4.out.trans (((below_box w4 (.cells #[.int .i64 i, .string dm, .string nm, .string s] 39)).mono HB4.out.size).trans hb2))
            have HO5 := Lib.hid hown2
            clear hown2 hb2 HB4 HO4 HLS HBS HOA
            go_wp2_with fail
            go_roundw
            case rel => exact ⟨j + 1, D ++ [(i, dm, nm, s)], by omega, by simp; omega, trivial, by go_num, HB5, HO5, HE⟩
            case measure => simp [intOf]; omega
          · have q := bytes_ne e2
            clear e1
            go_wp2_with fail
            clear hlk
            generalize (wr.alloc (.cells #[.int .i64 i, .string m, .string nm, .string s] 39)).alloc (.cells #[.string dm, .string dn] 77) = wx at *
            have HX := Lib.hid HX1.out.drew1
            have HY := Lib.hid HY1.out.drew1
            simp only [World.size_alloc] at HY
            generalize wr.heap.size + 1 = yb at *
            generalize wr.heap.size = xb at *
            clear HX1 HY1
            apply wp_region_relT LeW.refl LeW.trans 7
            case hm => kernel_rfl
            case hB => kernel_rfl
            simp only [List.take_succ_cons, List.take_zero, List.drop_succ_cons, List.drop_zero]
            apply wpRel_cons (t := tyIs _ _)
            case h1 => (intro w' hl hd2; clear hl hd2; unfold relAt; go_simp; exact rel_is LeW.refl)
            intro _
            rw [tyIs_f]
            go_simp
            apply wpRel_cons (t := tyIs _ _)
            case h1 => (intro w' hl hd2; clear hl hd2; unfold relAt; go_simp; exact rel_is LeW.refl)
            intro _
            rw [tyIs_f]
            go_simp
            apply wpRel_cons (t := tyIs _ _)
            case h1 => (intro w' hl hd2; obtain ⟨y0, y1⟩ := en2 (HY.out.below hl); clear hl hd2; unfold relAt; go_simp; exact rel_is LeW.refl)
            intro _
            rw [tyIs_f]
            go_simp
            apply wpRel_cons (t := tyIs _ _)
            case h1 => (intro w' hl hd2; obtain ⟨x0, x1, x2, x3⟩ := en4 (HX.out.below hl); clear hl hd2; unfold relAt; go_simp; exact rel_is LeW.refl)
            intro _
            rw [tyIs_f]
            go_simp
            apply wpRel_cons (t := tyIs _ _)
            case h1 => (intro w' hl hd2; obtain ⟨x0, x1, x2, x3⟩ := en4 (HX.out.below hl); clear hl hd2; unfold relAt; go_simp; exact rel_is LeW.refl)
            intro _
            rw [tyIs_f]
            go_simp
            apply wpRel_cons (t := tyIs _ (.agg #[.string m, .string nm]))
            case h1 => (intro w' hl hd2; clear hl hd2; unfold relAt; go_simp; refine ⟨LeW.refl _, ?_⟩; refine (definitionOf_any (m, nm, s) _).mono ?_; rintro e w'' ⟨rfl, hb''⟩; exact ⟨(), rfl, hb'', trivial⟩)
            intro _
            rw [tyIs_f]
            go_simp
            apply wpRel_cons (t := tyIs _ _)
            case h1 => (intro w' hl hd2; clear hl hd2; unfold relAt; go_simp; exact rel_is LeW.refl)
            intro _
            rw [tyIs_f]
            go_simp
            apply wpRel_nil (Ts := [])
            intro w4 hl hF
            have hl1 : Below wx.heap.size wx w4 := bnext ((Below.refl _ wx).drew) hl
            have HB4 := Lib.hid (HB2.out.trans (hl1.mono HB2.out.size))
            have HO4 := Lib.hid (HO2.out.below hl1)
            obtain ⟨x0, x1, x2, x3⟩ := en4 (HX.out.below hl)
            clear hl hl1 hF HX HY HB2 HO2
            have HLS : Hid (CellsAt (w4.alloc (.cells #[.int .i64 i, .string m, .string nm, .string s] 39)) w4.heap.size 0 (encEn.all [(i, m, nm, s)])) := cellsAt_alloc w4 [.int .i64 i, .string m, .string nm, .string s] _
            have HBS : Hid (w1.heap.size ≤ (w4.alloc (.cells #[.int .i64 i, .string m, .string nm, .string s] 39)).heap.size) := Nat.le_trans HB4.out.size (below_box w4 _).size
            have HOA := Lib.hid (HO4.out.alloc (.cells #[.int .i64 i, .string m, .string nm, .string s] 39))
            go_wp2_with (at_builtin; refine wpList_appendL (E := encEn) Try.underlying27 info_enE ?_ rfl (.tmp 36) (.tmp 38) rfl w1.heap.size u6 D ?_ ?_ (some ⟨w4.heap.size, 0, none⟩) 1 1 [(i, m, nm, s)] ?_ ?_ ?_ ?_ ?_ ?_ ?_ ?_)
            · rfl
            · rfl
            · exact HOA.out
            · rfl
            · rfl
            · exact fun _ => ⟨_, 0, rfl, HLS.out⟩
            · exact fun h => by cases h
            · exact R1
            · exact R2
            · exact HBS.out
            intro out2 w5 hown2 hb2
            have HB5 := Lib.hid (HB4.out.trans (((below_box w4 (.cells #[.int .i64 i, .string m, .string nm, .string s] 39)).mono HB4.out.size).trans hb2))
            have HO5 := Lib.hid hown2
            clear hown2 hb2 HB4 HO4 HLS HBS HOA
            go_wp2_with fail
            go_roundw
            case rel => exact ⟨j + 1, D ++ [(i, m, nm, s)], by omega, by simp; omega, trivial, by go_num, HB5, HO5, HE⟩
            case measure => simp [intOf]; omega
    · have hje : j = n := by omega
      have hlen : L.take j = L := by rw [hje, Hn.out]; exact List.take_length
      rw [hlen] at he
      have HE : Hid (D = movesV old L) := he.out
      have HO := Lib.hid ho.out.sl
      clear hje hlen he
      go_wp2
      go_ret
      exact ⟨_, rfl, by rw [← HE.out]; exact HO.out, bnext HB1.out hb.out⟩
end Go.Proofs.Ytcplhnpblpmalaa.Idn
