/-
  CONTRACTS: the reference's SameList of identities, where both lists read alike.
-/
import Derived.Test.YtcplhnpblpmalaaMov5P
namespace Go.Proofs.Ytcplhnpblpmalaa.Idn
open Go Go.RowKit Go.Maps
set_option linter.unusedVariables false
set_option maxRecDepth 1000000
set_option linter.unusedSimpArgs false

set_option maxHeartbeats 1000000 in
theorem sameList_eq (p : Option Addr) (n cap : Nat) (p2 : Option Addr) (n2 cap2 : Nat) (L : List En) (w : World) (hc : L.length ≤ 1000) (hs : SlIs encEn w (.slice p n cap) L) (hs2 : SlIs encEn w (.slice p2 n2 cap2) L) :
    Calls Try.prog 36 #[.slice p n cap, .slice p2 n2 cap2] w fun e w' => e = .returned (.bool true) ∧ Below w.heap.size w w' := by
  obtain ⟨hn, hc1, hc2, hlies⟩ := hs.lies
  obtain ⟨hn2, hd1, hd2, hlies2⟩ := hs2.lies
  obtain rfl : n2 = n := by omega
  have hnb : (n2 : Int) ≤ 1000 := by omega
  have Hn := Lib.hid hn
  clear hn hn2 hs hs2 hc
  go_enter Try.func36, Try.ntmps36
  go_wp2
  go_loopw [5] (fun i wr => ∃ j : Nat, j ≤ n2 ∧ i = .int .i64 j ∧ Hid (Below w.heap.size w wr)) (fun i _ => n2 - (intOf i).toNat)
  case atStart => exact ⟨0, Nat.zero_le _, rfl, Below.refl _ _⟩
  case round =>
    obtain ⟨j, hj, rfl, hb⟩ := hrel
    by_cases hlt : j < n2
    · obtain ⟨b, off, rfl, hca⟩ := hlies (by omega)
      obtain ⟨b2, off2, rfl, hcb⟩ := hlies2 (by omega)
      have hjl : j < L.length := by rw [← Hn.out]; exact hlt
      have HA := Lib.hid ((hca.below hb.out).below ((Below.refl _ wr).drew))
      have HB := Lib.hid ((hcb.below hb.out).below ((Below.refl _ wr).drew))
      obtain ⟨⟨i, m, nm, s⟩, hxe⟩ : ∃ x, L.getD j en0 = x := ⟨_, rfl⟩
      clear hca hcb
      go_wp2_with fail
      apply wp_region_relT LeW.refl LeW.trans 8
      case hm => kernel_rfl
      case hB => kernel_rfl
      simp only [List.take_succ_cons, List.take_zero, List.drop_succ_cons, List.drop_zero]
      apply wpRel_cons (t := tyIs _ _)
      case h1 => (intro w' hl hd2; clear hl hd2; unfold relAt; go_simp; exact rel_is LeW.refl)
      intro _
      rw [tyIs_f]
      go_simp
      apply wpRel_cons (t := tyIs _ _)
      case h1 => (intro w' hl hd2; clear hl hd2; unfold relAt; go_simp; exact rel_is LeW.refl)
      intro _
      rw [tyIs_f]
      go_simp
      apply wpRel_cons (t := tyIs _ _)
      case h1 => (intro w' hl hd2; clear hl hd2; unfold relAt; go_simp; exact rel_is LeW.refl)
      intro _
      rw [tyIs_f]
      go_simp
      apply wpRel_cons (t := tyIs _ _)
      case h1 => (intro w' hl hd2; obtain ⟨c0, c1, c2, c3⟩ := enAt (HA.out.below hl) j hjl; rw [hxe] at c0 c1 c2 c3; clear hl hd2; unfold relAt; go_simp; exact rel_is LeW.refl)
      intro _
      rw [tyIs_f]
      go_simp
      apply wpRel_cons (t := tyIs _ _)
      case h1 => (intro w' hl hd2; clear hl hd2; unfold relAt; go_simp; exact rel_is LeW.refl)
      intro _
      rw [tyIs_f]
      go_simp
      apply wpRel_cons (t := tyIs _ _)
      case h1 => (intro w' hl hd2; clear hl hd2; unfold relAt; go_simp; exact rel_is LeW.refl)
      intro _
      rw [tyIs_f]
      go_simp
      apply wpRel_cons (t := tyIs _ _)
      case h1 => (intro w' hl hd2; clear hl hd2; unfold relAt; go_simp; exact rel_is LeW.refl)
      intro _
      rw [tyIs_f]
      go_simp
      apply wpRel_cons (t := tyIs _ _)
      case h1 => (intro w' hl hd2; obtain ⟨d0, d1, d2, d3⟩ := enAt (HB.out.below hl) j hjl; rw [hxe] at d0 d1 d2 d3; clear hl hd2; unfold relAt; go_simp; exact rel_is LeW.refl)
      intro _
      rw [tyIs_f]
      go_simp
      apply wpRel_nil (Ts := [])
      intro w2 hl hF
      have HB2 := Lib.hid (hb.out.trans ((((Below.refl _ wr).drew).trans hl).mono hb.out.size))
      clear hl hF HA HB hxe
      go_wp2_with fail
      go_roundw
      case rel => exact ⟨j + 1, by omega, by go_num, HB2⟩
      case measure => simp [intOf]; omega
    · have : j = n2 := by omega
      subst this
      go_wp2_with fail
      go_ret
      exact ⟨rfl, hb.out⟩
set_option maxHeartbeats 1000000 in
theorem same_eq (nx : Int) (p : Option Addr) (n cap : Nat) (p2 : Option Addr) (n2 cap2 : Nat) (L : List En) (w : World) (hc : L.length ≤ 1000) (hs : SlIs encEn w (.slice p n cap) L) (hs2 : SlIs encEn w (.slice p2 n2 cap2) L) :
    Calls Try.prog 18 #[.agg #[.int .i64 nx, .slice p n cap], .agg #[.int .i64 nx, .slice p2 n2 cap2]] w fun e w' => e = .returned (.bool true) ∧ Below w.heap.size w w' := by
  have HB : Hid (Below w.heap.size w ((w.alloc (.cells #[.int .i64 nx, .slice p n cap] 29)).alloc (.cells #[.int .i64 nx, .slice p2 n2 cap2] 29))) := bnext (below_box w _) (below_box _ _)
  have HS := Lib.hid (sameList_eq p n cap p2 n2 cap2 L _ hc (hs.below HB.out) (hs2.below HB.out))
  clear hc hs hs2
  go_enter Try.func18, Try.ntmps18
  go_wp2_with (first
    | (go_at_call 36; refine HS.out.mono ?_; rintro e w1 ⟨rfl, hb1⟩; have HB1 := Lib.hid (bnext HB.out hb1); clear hb1)
    | fail)
  go_ret
  exact ⟨rfl, HB1.out⟩
end Go.Proofs.Ytcplhnpblpmalaa.Idn
