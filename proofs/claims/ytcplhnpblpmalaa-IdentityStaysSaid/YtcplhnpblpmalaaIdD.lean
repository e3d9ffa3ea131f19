/-
  CONTRACTS: identity.Find.
-/
import Derived.Test.YtcplhnpblpmalaaIdC
namespace Go.Proofs.Ytcplhnpblpmalaa.Idn
open Go Go.RowKit Go.Maps
set_option linter.unusedVariables false
set_option maxRecDepth 1000000

theorem at_cons (y : En) (L : List En) (d : Df) : at? (y :: L) d = if dfn y.2 = d then some y else at? L d := by
  unfold at?
  rw [List.find?_cons]
  by_cases e : dfn y.2 = d <;> simp [e]
def foundV (L : List En) (d : Df) : Value := match at? L d with | some y => .tuple #[.int .i64 y.1, .bool true] | none => .tuple #[.int .i64 0, .bool false]

set_option maxHeartbeats 1000000 in
theorem find_any (next : Int) (p : Option Addr) (n cap : Nat) (L : List En) (mo na : ByteArray) (w : World) (hc : L.length ≤ 100000) (hs : SlIs encEn w (.slice p n cap) L) :
    Calls Try.prog 19 #[.agg #[.int .i64 next, .slice p n cap], .string mo, .string na] w fun e w' => e = .returned (foundV L (mo, na)) ∧ Below w.heap.size w w' := by
  obtain ⟨hn, hc1, hc2, hlies⟩ := hs.lies
  have hnb : (n : Int) ≤ 100000 := by omega
  have Hn := Lib.hid hn
  have HW1 := Lib.hid (cellsAt_alloc (w.alloc (.cells #[.int .i64 next, .slice p n cap] 29)) [.string mo, .string na] 77)
  simp only [World.size_alloc] at HW1
  clear hn hs hc
  go_enter Try.func19, Try.ntmps19
  go_wp2
  generalize hw0 : ((w.alloc (.cells #[.int .i64 next, .slice p n cap] 29)).alloc (.cells #[.string mo, .string na] 77)) = w0 at *
  have HB0 : Hid (Below w.heap.size w w0) := by rw [← hw0]; exact bnext (below_box w _) (below_box _ _)
  generalize w.heap.size + 1 = yb at *
  clear hw0
  go_loopw [17] (fun i wr => ∃ j : Nat, j ≤ n ∧ i = .int .i64 j ∧ Hid (Below w0.heap.size w0 wr) ∧ Hid (at? L (mo, na) = at? (L.drop j) (mo, na))) (fun i _ => n - (intOf i).toNat)
  case atStart => exact ⟨0, Nat.zero_le _, rfl, Below.refl _ _, rfl⟩
  case round =>
    obtain ⟨j, hj, rfl, hb, hm⟩ := hrel
    by_cases hlt : j < n
    · obtain ⟨b, off, rfl, hcells0⟩ := hlies (by omega)
      have hjl : j < L.length := by rw [← Hn.out]; exact hlt
      obtain ⟨c0, c1, c2, c3⟩ := enAt ((hcells0.below HB0.out).below hb.out) j hjl
      have hst := hm.out
      rw [drop_one L en0 j hjl, at_cons] at hst
      have HST := Lib.hid hst
      clear hst hm
      generalize L.getD j en0 = x at *
      obtain ⟨i, m, nm, s⟩ := x
      have H1 := Lib.hid hlies
      have HX := Lib.hid (cellsAt_alloc wr [.int .i64 i, .string m, .string nm, .string s] 39)
      have HW := Lib.hid (((HW1.out).below hb.out).below (below_box wr (.cells #[.int .i64 i, .string m, .string nm, .string s] 39)))
      have HB := Lib.hid (bnext hb.out (below_box wr (.cells #[.int .i64 i, .string m, .string nm, .string s] 39)))
      clear hlies hcells0 hjl
      go_wp2_with fail
      clear hb c0 c1 c2 c3
      generalize wr.alloc (.cells #[.int .i64 i, .string m, .string nm, .string s] 39) = wx at *
      generalize wr.heap.size = xb at *
      have HX := Lib.hid HX.out.drew1
      have HW := Lib.hid HW.out.drew1
      by_cases he : (m, nm) = (mo, na)
      · have HE : Hid (foundV L (mo, na) = .tuple #[.int .i64 i, .bool true]) := by unfold Hid foundV; rw [HST.out, if_pos (show dfn (m, nm, s) = (mo, na) from he)]
        obtain ⟨rfl, rfl⟩ := Prod.mk.inj he
        clear he HST
        apply wp_region_relT LeW.refl LeW.trans 4
        case hm => kernel_rfl
        case hB => kernel_rfl
        simp only [List.take_succ_cons, List.take_zero, List.drop_succ_cons, List.drop_zero]
        apply wpRel_cons (t := tyIs _ _)
        case h1 => (intro w' hl hd2; obtain ⟨x0, x1, x2, x3⟩ := en4 (HX.out.below hl); obtain ⟨y0, y1⟩ := en2 (HW.out.below hl); clear hl hd2; unfold relAt; go_simp; exact rel_is LeW.refl)
        intro _
        rw [tyIs_f]
        go_simp
        apply wpRel_cons (t := tyIs _ _)
        case h1 => (intro w' hl hd2; obtain ⟨x0, x1, x2, x3⟩ := en4 (HX.out.below hl); obtain ⟨y0, y1⟩ := en2 (HW.out.below hl); clear hl hd2; unfold relAt; go_simp; exact rel_is LeW.refl)
        intro _
        rw [tyIs_f]
        go_simp
        apply wpRel_cons (t := tyIs _ (.agg #[.string m, .string nm]))
        case h1 => (intro w' hl hd2; clear hl hd2; unfold relAt; go_simp; refine ⟨LeW.refl _, ?_⟩; refine (definitionOf_any (m, nm, s) _).mono ?_; rintro e w'' ⟨rfl, hb''⟩; exact ⟨(), rfl, hb'', trivial⟩)
        intro _
        rw [tyIs_f]
        go_simp
        apply wpRel_cons (t := tyIs _ _)
        case h1 => (intro w' hl hd2; obtain ⟨x0, x1, x2, x3⟩ := en4 (HX.out.below hl); obtain ⟨y0, y1⟩ := en2 (HW.out.below hl); clear hl hd2; unfold relAt; go_simp; exact rel_is LeW.refl)
        intro _
        rw [tyIs_f]
        go_simp
        apply wpRel_nil (Ts := [])
        intro w1 hl hF
        have HB1 := Lib.hid (bnext HB.out (bnext ((Below.refl _ wx).drew) hl))
        obtain ⟨x0, x1, x2, x3⟩ := en4 (HX.out.below hl)
        clear hl hF HX HW HB
        go_wp2_with fail
        go_ret2
        exact ⟨by rw [HE.out]; rfl, HB0.out.trans (HB1.out.mono HB0.out.size)⟩
      · have HE : Hid (at? L (mo, na) = at? (L.drop (j + 1)) (mo, na)) := by unfold Hid; rw [HST.out, if_neg (show ¬ dfn (m, nm, s) = (mo, na) from he)]
        clear HST
        by_cases e1 : m = mo
        · have q := bytes_ne (show nm ≠ na from fun e2 => he (by rw [e1, e2]))
          subst e1
          clear he
          apply wp_region_relT LeW.refl LeW.trans 4
          case hm => kernel_rfl
          case hB => kernel_rfl
          simp only [List.take_succ_cons, List.take_zero, List.drop_succ_cons, List.drop_zero]
          apply wpRel_cons (t := tyIs _ _)
          case h1 => (intro w' hl hd2; obtain ⟨x0, x1, x2, x3⟩ := en4 (HX.out.below hl); obtain ⟨y0, y1⟩ := en2 (HW.out.below hl); clear hl hd2; unfold relAt; go_simp; exact rel_is LeW.refl)
          intro _
          rw [tyIs_f]
          go_simp
          apply wpRel_cons (t := tyIs _ _)
          case h1 => (intro w' hl hd2; obtain ⟨x0, x1, x2, x3⟩ := en4 (HX.out.below hl); obtain ⟨y0, y1⟩ := en2 (HW.out.below hl); clear hl hd2; unfold relAt; go_simp; exact rel_is LeW.refl)
          intro _
          rw [tyIs_f]
          go_simp
          apply wpRel_cons (t := tyIs _ (.agg #[.string m, .string nm]))
          case h1 => (intro w' hl hd2; clear hl hd2; unfold relAt; go_simp; refine ⟨LeW.refl _, ?_⟩; refine (definitionOf_any (m, nm, s) _).mono ?_; rintro e w'' ⟨rfl, hb''⟩; exact ⟨(), rfl, hb'', trivial⟩)
          intro _
          rw [tyIs_f]
          go_simp
          apply wpRel_cons (t := tyIs _ _)
          case h1 => (intro w' hl hd2; obtain ⟨x0, x1, x2, x3⟩ := en4 (HX.out.below hl); obtain ⟨y0, y1⟩ := en2 (HW.out.below hl); clear hl hd2; unfold relAt; go_simp; exact rel_is LeW.refl)
          intro _
          rw [tyIs_f]
          go_simp
          apply wpRel_nil (Ts := [])
          intro w1 hl hF
          have HB1 := Lib.hid (bnext HB.out (bnext ((Below.refl _ wx).drew) hl))
          obtain ⟨x0, x1, x2, x3⟩ := en4 (HX.out.below hl)
          clear hl hF HX HW HB
          go_wp2_with fail
          go_roundw
          case rel => exact ⟨j + 1, by omega, by go_num, HB1, HE⟩
          case measure => simp [intOf]; omega
        · have q := bytes_ne e1
          clear he
          apply wp_region_relT LeW.refl LeW.trans 4
          case hm => kernel_rfl
          case hB => kernel_rfl
          simp only [List.take_succ_cons, List.take_zero, List.drop_succ_cons, List.drop_zero]
          apply wpRel_cons (t := tyIs _ _)
          case h1 => (intro w' hl hd2; obtain ⟨x0, x1, x2, x3⟩ := en4 (HX.out.below hl); obtain ⟨y0, y1⟩ := en2 (HW.out.below hl); clear hl hd2; unfold relAt; go_simp; exact rel_is LeW.refl)
          intro _
          rw [tyIs_f]
          go_simp
          apply wpRel_cons (t := tyIs _ _)
          case h1 => (intro w' hl hd2; obtain ⟨x0, x1, x2, x3⟩ := en4 (HX.out.below hl); obtain ⟨y0, y1⟩ := en2 (HW.out.below hl); clear hl hd2; unfold relAt; go_simp; exact rel_is LeW.refl)
          intro _
          rw [tyIs_f]
          go_simp
          apply wpRel_cons (t := tyIs _ (.agg #[.string m, .string nm]))
          case h1 => (intro w' hl hd2; clear hl hd2; unfold relAt; go_simp; refine ⟨LeW.refl _, ?_⟩; refine (definitionOf_any (m, nm, s) _).mono ?_; rintro e w'' ⟨rfl, hb''⟩; exact ⟨(), rfl, hb'', trivial⟩)
          intro _
          rw [tyIs_f]
          go_simp
          apply wpRel_cons (t := tyIs _ _)
          case h1 => (intro w' hl hd2; obtain ⟨x0, x1, x2, x3⟩ := en4 (HX.out.below hl); obtain ⟨y0, y1⟩ := en2 (HW.out.below hl); clear hl hd2; unfold relAt; go_simp; exact rel_is LeW.refl)
          intro _
          rw [tyIs_f]
          go_simp
          apply wpRel_nil (Ts := [])
          intro w1 hl hF
          have HB1 := Lib.hid (bnext HB.out (bnext ((Below.refl _ wx).drew) hl))
          obtain ⟨x0, x1, x2, x3⟩ := en4 (HX.out.below hl)
          clear hl hF HX HW HB
          go_wp2_with fail
          go_roundw
          case rel => exact ⟨j + 1, by omega, by go_num, HB1, HE⟩
          case measure => simp [intOf]; omega
    · have HE : Hid (foundV L (mo, na) = .tuple #[.int .i64 0, .bool false]) := by
        have : L.drop j = [] := List.drop_eq_nil_iff.2 (by rw [← Hn.out]; omega)
        unfold Hid foundV; rw [hm.out, this]; rfl
      clear hlies hm
      go_wp2
      go_ret2
      exact ⟨by rw [HE.out]; rfl, HB0.out.trans (hb.out.mono HB0.out.size)⟩
end Go.Proofs.Ytcplhnpblpmalaa.Idn
