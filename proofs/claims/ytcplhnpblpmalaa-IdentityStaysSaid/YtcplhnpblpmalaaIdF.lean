/-
  CONTRACTS: identity.Check of valid identities.
-/
import Derived.Test.YtcplhnpblpmalaaIdD
namespace Go.Proofs.Ytcplhnpblpmalaa.Idn
open Go Go.RowKit Go.Maps
set_option linter.unusedVariables false
set_option maxRecDepth 1000000

/-- a map of identities that lies there -/
def tyMapB (cnt : Nat) (f : Df → Option En) : Ty LeW := ⟨{b : Nat // True}, ⟨⟨0, trivial⟩⟩, fun b => .map (some b.1), fun b w => MapAt dfKeys enV w b.1 cnt f, fun x w w' hl h => h.below hl h.lt⟩
theorem tyMapB_f (cnt : Nat) (f : Df → Option En) (b : Nat) (h : True) : (tyMapB cnt f).f ⟨b, h⟩ = .map (some b) := rfl
theorem tyMapB_p (cnt : Nat) (f : Df → Option En) (b : Nat) (h : True) (w : World) : (tyMapB cnt f).φ ⟨b, h⟩ w = MapAt dfKeys enV w b cnt f := rfl
theorem chk_asc {next : Int} {L : List En} (hc : Chk next L) : ascB next 0 L = true := (ascB_iff next 0 L).2 ⟨hc.asc, fun y hy => by have := hc.pos y hy; omega⟩
theorem chk_cnt {next : Int} {L : List En} (hc : Chk next L) : bdC L = L.length := (bdC_full L).2 hc.dif

set_option maxHeartbeats 1000000 in
theorem checkOk_any (next : Int) (p : Option Addr) (n cap : Nat) (L : List En) (w : World) (hc : L.length ≤ 10000) (hs : SlIs encEn w (.slice p n cap) L) (hf : FitsE L) (hk : Chk next L) :
    Calls Try.prog 17 #[.agg #[.int .i64 next, .slice p n cap]] w fun e w' => e = .returned (.bool true) ∧ Below w.heap.size w w' := by
  obtain ⟨hn, hc1, hc2, hlies⟩ := hs.lies
  have hnb : (n : Int) ≤ 10000 := by omega
  have k1 := hk.low
  have k2 := hk.high
  have HC : Hid (L.length ≤ 100000) := by unfold Hid; omega
  have HF := Lib.hid hf
  have HA := Lib.hid (chk_asc hk)
  have HN := Lib.hid ((chk_cnt hk).trans hn.symm)
  have HX := Lib.hid (cellsAt_alloc w [.int .i64 next, .slice p n cap] 29).drew1
  have HSL := Lib.hid ((hs.below (below_box w (.cells #[.int .i64 next, .slice p n cap] 29))).below (Below.refl _ _).drew)
  have HB := Lib.hid (bnext (below_box w (.cells #[.int .i64 next, .slice p n cap] 29)) (Below.refl _ _).drew)
  clear hn hs hc hk hf hlies
  go_enter Try.func17, Try.ntmps17
  go_wp2_with fail
  generalize w.alloc (.cells #[.int .i64 next, .slice p n cap] 29) = wx at *
  apply wp_region_relT LeW.refl LeW.trans 15
  case hm => kernel_rfl
  case hB => kernel_rfl
  simp only [List.take_succ_cons, List.take_zero, List.drop_succ_cons, List.drop_zero]
  apply wpRel_cons (t := tyIs _ _)
  case h1 => (intro w' hl hd2; obtain ⟨x0, x1⟩ := en2 (HX.out.below hl); clear hl hd2; unfold relAt; go_simp; exact rel_is LeW.refl)
  intro _
  rw [tyIs_f]
  go_simp
  apply wpRel_cons (t := tyIs _ _)
  case h1 => (intro w' hl hd2; obtain ⟨x0, x1⟩ := en2 (HX.out.below hl); clear hl hd2; unfold relAt; go_simp; exact rel_is LeW.refl)
  intro _
  rw [tyIs_f]
  go_simp
  apply wpRel_cons (t := tyIs _ _)
  case h1 => (intro w' hl hd2; obtain ⟨x0, x1⟩ := en2 (HX.out.below hl); clear hl hd2; unfold relAt; go_simp; exact rel_is LeW.refl)
  intro _
  rw [tyIs_f]
  go_simp
  apply wpRel_cons (t := tyIs _ _)
  case h1 => (intro w' hl hd2; obtain ⟨x0, x1⟩ := en2 (HX.out.below hl); clear hl hd2; unfold relAt; go_simp; exact rel_is LeW.refl)
  intro _
  rw [tyIs_f]
  go_simp
  apply wpRel_cons (t := tyIs _ (.bool true))
  case h1 => (intro w' hl hd2; have hs' := HSL.out.below hl; clear hl hd2; unfold relAt; go_simp; refine ⟨LeW.refl _, ?_⟩; refine (ascendBelow_any p n cap L next w' HC.out hs').mono ?_; rintro e w'' ⟨rfl, hb''⟩; exact ⟨(), by rw [HA.out]; rfl, hb'', trivial⟩)
  intro _
  rw [tyIs_f]
  go_simp
  apply wpRel_cons (t := tyIs _ _)
  case h1 => (intro w' hl hd2; clear hl hd2; unfold relAt; go_simp; exact rel_is LeW.refl)
  intro _
  rw [tyIs_f]
  go_simp
  apply wpRel_cons (t := tyIs _ _)
  case h1 => (intro w' hl hd2; obtain ⟨x0, x1⟩ := en2 (HX.out.below hl); clear hl hd2; unfold relAt; go_simp; exact rel_is LeW.refl)
  intro _
  rw [tyIs_f]
  go_simp
  apply wpRel_cons (t := tyIs _ _)
  case h1 => (intro w' hl hd2; obtain ⟨x0, x1⟩ := en2 (HX.out.below hl); clear hl hd2; unfold relAt; go_simp; exact rel_is LeW.refl)
  intro _
  rw [tyIs_f]
  go_simp
  apply wpRel_cons (t := tyMapB (bdC L) (bdF L))
  case h1 => (intro w' hl hd2; have hs' := HSL.out.below hl; clear hl hd2; unfold relAt; go_simp; refine ⟨LeW.refl _, ?_⟩; refine (byDefinition_any p n cap L w' HC.out hs' HF.out).mono ?_; rintro e w'' ⟨b, rfl, hb1, hb2, hm⟩; exact ⟨⟨b, trivial⟩, rfl, hb1, hm⟩)
  rintro ⟨mb, -⟩
  rw [tyMapB_f]
  go_simp
  apply wpRel_cons (t := tyIs _ (.int .i64 (bdC L : Nat)))
  case h1 => (intro w' hl hd2; have hx := fact_lw hd2 (j := 8) (by kernel_rfl); clear hl hd2; simp [upd] at hx; have hx2 : MapAt dfKeys enV w' mb (bdC L) (bdF L) := hx; clear hx; have hlen := fun ty => hx2.len (P := Try.prog) Try.underlying74 ty; unfold relAt; go_simp; exact rel_is LeW.refl)
  intro _
  rw [tyIs_f]
  go_simp
  apply wpRel_cons (t := tyIs _ _)
  case h1 => (intro w' hl hd2; obtain ⟨x0, x1⟩ := en2 (HX.out.below hl); clear hl hd2; unfold relAt; go_simp; exact rel_is LeW.refl)
  intro _
  rw [tyIs_f]
  go_simp
  apply wpRel_cons (t := tyIs _ _)
  case h1 => (intro w' hl hd2; obtain ⟨x0, x1⟩ := en2 (HX.out.below hl); clear hl hd2; unfold relAt; go_simp; exact rel_is LeW.refl)
  intro _
  rw [tyIs_f]
  go_simp
  apply wpRel_cons (t := tyIs _ _)
  case h1 => (intro w' hl hd2; clear hl hd2; unfold relAt; go_simp; exact rel_is LeW.refl)
  intro _
  rw [tyIs_f]
  go_simp
  apply wpRel_cons (t := tyIs _ _)
  case h1 => (intro w' hl hd2; clear hl hd2; unfold relAt; go_simp; exact rel_is LeW.refl)
  intro _
  rw [tyIs_f]
  go_simp
  apply wpRel_cons (t := tyIs _ _)
  case h1 => (intro w' hl hd2; clear hl hd2; unfold relAt; go_simp; exact rel_is LeW.refl)
  intro _
  rw [tyIs_f]
  go_simp
  apply wpRel_nil (Ts := [])
  intro w1 hl hF
  have HB1 := Lib.hid (bnext HB.out hl)
  have hN := HN.out
  clear hl hF HX HB HSL
  rw [hN]
  go_wp2_with fail
  go_ret
  exact ⟨by simp, HB1.out⟩
end Go.Proofs.Ytcplhnpblpmalaa.Idn
