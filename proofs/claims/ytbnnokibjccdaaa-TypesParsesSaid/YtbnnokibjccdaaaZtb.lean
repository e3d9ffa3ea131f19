/-
  THE WALK of the statement that reads types.
-/
import Derived.Test.YtbnnokibjccdaaaZts
namespace Go.Proofs.Ytbnnokibjccdaaa
open Go Go.RowKit Go.Maps Go.Shelf
set_option linter.unusedVariables false
set_option linter.unusedSimpArgs false
set_option maxRecDepth 1000000

set_option maxHeartbeats 8000000 in
theorem parses_walk (s : ByteArray) (p : Option Addr) (n cap : Nat) (at_ : Int) (w : World) (hs : s.size ≤ maxLen) (hn : n ≤ maxLen) (hr : Rolls w p n) (hb : ∀ b o, p = some ⟨b, o, none⟩ → b < w.heap.size) (a1 : -9223372036854775808 ≤ at_) (a2 : at_ ≤ 9223372036854775807) :
    Calls Try.prog 5 #[.string s, .slice p n cap, .int .i64 at_] w fun e w' => e = .returned (.bool true) ∧ Below w.heap.size w w' := by
  by_cases h1 : 400 < n
  case pos =>
    clear hr hb
    go_enter Try.func5, Try.ntmps5
    go_wp2_with fail
    refine (light_no p n cap _ h1 hn).mono ?_
    rintro e w1 ⟨rfl, rfl⟩
    go_wp2_with fail
    refine (awake_any _).mono ?_
    rintro e w1 ⟨rfl, hb⟩
    have HB := Lib.hid hb
    clear hb
    go_wp2_with fail
    go_ret
    exact ⟨rfl, HB.out⟩
  by_cases h2 : 2000 < s.size
  case pos =>
    have h3 : (2000 : Int) < (s.size : Int) := by omega
    clear hr hb
    go_enter Try.func5, Try.ntmps5
    go_wp2_with fail
    refine (light_yes p n cap _ (by omega)).mono ?_
    rintro e w1 ⟨rfl, rfl⟩
    go_wp2_with fail
    refine (awake_any _).mono ?_
    rintro e w1 ⟨rfl, hb⟩
    have HB := Lib.hid hb
    clear hb
    go_wp2_with fail
    go_ret
    exact ⟨rfl, HB.out⟩
  have h3 : ¬ (2000 : Int) < (s.size : Int) := by omega
  have HDW := Lib.hid (rolled (cap := cap) (show n ≤ 400 by omega) hr hb)
  have HB1 := Lib.hid (below_box w (.cells #[.slice p n cap, .int .i64 0] 61))
  have HRO := Lib.hid (roll_any p n cap w)
  obtain ⟨w1, hw1⟩ : ∃ z, w.alloc (.cells #[.slice p n cap, .int .i64 0] 61) = z := ⟨_, rfl⟩
  rw [hw1] at HDW HB1 HRO
  clear hr hb hw1
  go_enter Try.func5, Try.ntmps5
  go_wp2_with fail
  refine (light_yes p n cap _ (by omega)).mono ?_
  rintro e w1' ⟨rfl, hq⟩
  replace hq := hq.symm
  subst hq
  go_wp2_with fail
  refine HRO.out.mono ?_
  rintro e w1' ⟨rfl, hq⟩
  replace hq := hq.symm
  subst hq
  go_wp2_with fail
  refine (dtype_any ⟨w.heap.size, p, n, cap⟩ 4 (by decide) _ HDW.out.1).mono ?_
  rintro e w2 ⟨⟨qn, qp, ql, qc⟩, t, rfl, hip, hmt, hth⟩
  have HL := Lib.hid (prS_len hmt)
  have HLP := Lib.hid (prL_size hmt)
  have HB2 : Hid (Below w.heap.size w w2) := HB1.out.trans (hth.but.below (HB1.out.size) (fun a q => by rw [show a = ⟨w.heap.size, 1, none⟩ from q]; exact Nat.le_refl _))
  clear hth hmt HDW HRO HB1
  go_wp2_with fail
  refine (rPrint_any _ ⟨qn, qp, ql, qc⟩ t _ hip (by have := HLP.out; omega)).mono ?_
  rintro e w3 ⟨rfl, hb3⟩
  obtain ⟨S, hS⟩ : ∃ S, S = prS t := ⟨_, rfl⟩
  rw [← hS] at HL ⊢
  have HB3 := Lib.hid (bnext HB2.out hb3)
  clear hS HLP hip hb3 HB2
  have hcv3 := Lib.run_convert_string_bytes (P := Try.prog) w3 9 38 5 S Try.underlying9 Try.underlying38 Try.underlying5
  have HBB := Lib.hid (Lib.bytesWorld_below w3 5 S)
  have HBC := Lib.hid (fun j hj => Lib.bytesWorld_cell w3 5 S j hj)
  have HBN := Lib.hid (Lib.bytesWorld_at_new w3 5 S)
  obtain ⟨w4, hw4⟩ : ∃ x, x = Lib.bytesWorld w3 5 S := ⟨_, rfl⟩
  rw [← hw4] at hcv3 HBB HBC HBN
  obtain ⟨cp, hcp⟩ : ∃ x, x = grownCap w3 S.size 0 5 := ⟨_, rfl⟩
  have hge : Hid (S.size ≤ cp) := by show _ ≤ _; rw [hcp]; exact grownCap_ge _ _ _ _
  rw [← hcp] at hcv3
  clear hw4 hcp
  obtain ⟨tb, htb⟩ : ∃ x, x = w3.heap.size := ⟨_, rfl⟩
  rw [← htb] at hcv3 HBC HBN HBB
  have HTB : Hid (w.heap.size ≤ tb ∧ tb < w4.heap.size) := ⟨by rw [htb]; exact HB3.out.size, heap_lt_of HBN.out⟩
  have HB4 : Hid (Below w.heap.size w w4) := HB3.out.trans (HBB.out.mono (by rw [htb]; exact HB3.out.size))
  clear htb HB3 HBB
  obtain ⟨k, hmod, k0, k1⟩ := mod_any at_ (S.size : Int) (by have := HL.out; omega) (by have := HL.out; omega) a1 a2
  obtain ⟨kn, rfl⟩ : ∃ m : Nat, k = (m : Int) := ⟨k.toNat, by omega⟩
  have HK : Hid (kn < S.size) := by show _ < _; omega
  have HMOD := Lib.hid hmod
  clear hmod k0 k1
  go_wp2_with fail
  refine (HMOD.out _).mono ?_
  rintro e w4' ⟨rfl, rfl⟩
  clear hcv3 HMOD
  obtain ⟨c, hc, hc2⟩ : ∃ c : Nat, at_ / 512 % 256 = (c : Int) ∧ c < 256 := ⟨(at_ / 512 % 256).toNat, by omega, by omega⟩
  have HC := Lib.hid hc
  have hby : ByA w4 tb S.data.toList := fun j hj => by
    have hj' : j < S.size := by simpa using hj
    rw [HBC.out j hj', List.getD_eq_getElem?_getD, List.getElem?_eq_getElem hj]
    rfl
  have hLS : S.data.toList.length = S.size := by simp
  have hk := HK.out
  obtain ⟨SA, HSA, HC0⟩ : ∃ X : ByteArray, X.size ≤ 10000 ∧ Hid (∀ W, Below w4.heap.size w4 W → (convert 38 9 (.slice (some ⟨tb, 0, none⟩) S.size cp)).run Try.prog W = .ok (.string X) W) :=
    ⟨_, by have := HL.out; show (List.toArray _).size ≤ 10000; simp; omega, fun W hW => (hby.later hW HTB.out.2).piece 0 S.size cp (by omega)⟩
  obtain ⟨SB, HSB, HC1⟩ : ∃ X : ByteArray, X.size ≤ 10000 ∧ Hid (∀ W, Below w4.heap.size w4 W → (convert 38 9 (.slice (some ⟨tb, 0, none⟩) kn cp)).run Try.prog W = .ok (.string X) W) :=
    ⟨_, by have := HL.out; show (List.toArray _).size ≤ 10000; simp; omega, fun W hW => (hby.later hW HTB.out.2).piece 0 kn cp (by omega)⟩
  obtain ⟨SC, HSC, HC2⟩ : ∃ X : ByteArray, X.size ≤ 10000 ∧ Hid (∀ W, Below w4.heap.size w4 W → (convert 38 9 (.slice (some ⟨tb, kn, none⟩) (S.size - kn) (cp - kn))).run Try.prog W = .ok (.string X) W) :=
    ⟨_, by have := HL.out; show (List.toArray _).size ≤ 10000; simp; omega, fun W hW => (hby.later hW HTB.out.2).piece kn (S.size - kn) (cp - kn) (by omega)⟩
  obtain ⟨xc, HXC, HX8⟩ : ∃ X : ByteArray, X.size ≤ 10000 ∧ Hid (∀ W b, W.cell? ⟨b, 0, none⟩ = some (.int .u8 (c : Int)) → (convert 38 9 (.slice (some ⟨b, 0, none⟩) 1 1)).run Try.prog W = .ok (.string X) W) :=
    ⟨_, by show 1 ≤ 10000; omega, fun W b h => one8_text hc2 h⟩
  have HKC : Hid ((kn : Int) ≤ (cp : Int)) := by have := hge.out; show _ ≤ _; omega
  have HKS : Hid ((kn : Int) ≤ (S.size : Int)) := by show _ ≤ _; omega
  have HKN : Hid (¬ cp = kn) := by have := hge.out; show ¬ _; omega
  clear hc hLS hk hby
  go_wp2_with fail
  rw [HC.out]
  -- REGION
  apply wp_region_one 26 27 LB LB (fun W => Below w4.heap.size w4 W) (fun _ => True) (fun _ _ => False)
  case hIA => (intro x y hl h; exact h.trans (hl.mono h.size))
  case hIC => (intro x y hl h; exact h.trans (hl.mono h.size))
  case hPA => (intro x y hl h; trivial)
  case hm => kernel_rfl
  case hB => kernel_rfl
  case h0 => exact (Below.refl _ _).drew
  case h1 => trivial
  case hP => (rintro k a' W hf hd; exact hf.elim)
  simp only [List.take_succ_cons, List.take_zero, List.drop_succ_cons, List.drop_zero]
  apply wpOne_cons (t := tvIs _) (tvIs_good _ _)
  case h1 => (intro W hI hl; clear hI hl; unfold oneAt; go_simp; exact one_isL)
  intro _
  rw [tvIs_f]
  go_simp
  apply wpOne_cons (t := tvIs _) (tvIs_good _ _)
  case h1 => (intro W hI hl; clear hI hl; unfold oneAt; go_simp; exact one_isL)
  intro _
  rw [tvIs_f]
  go_simp
  apply wpOne_cons (t := tvIs _) (tvIs_good _ _)
  case h1 => (intro W hI hl; have y := HC0.out W hI; clear hI hl; unfold oneAt; go_simp; exact one_isL)
  intro _
  rw [tvIs_f]
  go_simp
  apply wpOne_cons (t := tvIs _) (tvIs_good _ _)
  case h1 => (intro W hI hl; clear hI hl; unfold oneAt; go_simp; exact one_isL)
  intro _
  rw [tvIs_f]
  go_simp
  apply wpOne_cons (t := tvIs _) (tvIs_good _ _)
  case h1 => (intro W hI hl; clear hI hl; unfold oneAt; go_simp; exact one_isL)
  intro _
  rw [tvIs_f]
  go_simp
  apply wpOne_cons (t := tvIs _) (tvIs_good _ _)
  case h1 => (intro W hI hl; have y1 : (kn : Int) ≤ (cp : Int) := HKC.out; clear hI hl; unfold oneAt; go_simp; exact one_isL)
  intro _
  rw [tvIs_f]
  go_simp
  apply wpOne_cons (t := tvIs _) (tvIs_good _ _)
  case h1 => (intro W hI hl; have y := HC1.out W hI; clear hI hl; unfold oneAt; go_simp; exact one_isL)
  intro _
  rw [tvIs_f]
  go_simp
  apply wpOne_cons (t := tvIs _) (tvIs_good _ _)
  case h1 => (intro W hI hl; clear hI hl; unfold oneAt; go_simp; exact one_isL)
  intro _
  rw [tvIs_f]
  go_simp
  apply wpOne_cons (t := tvIs _) (tvIs_good _ _)
  case h1 => (intro W hI hl; have y := HC0.out W hI; clear hI hl; unfold oneAt; go_simp; exact one_isL)
  intro _
  rw [tvIs_f]
  go_simp
  apply wpOne_cons (t := tvIs _) (tvIs_good _ _)
  case h1 => (intro W hI hl; clear hI hl; unfold oneAt; go_simp; exact one_isL)
  intro _
  rw [tvIs_f]
  go_simp
  apply wpOne_cons (t := tvOne8 c) (tvOne8_good _ _ _)
  case h1 => (intro W hI hl; clear hI hl; unfold oneAt; go_simp; exact tvOne8_mk _)
  rintro ⟨xb, _⟩
  rw [tvOne8_f]
  go_simp
  apply wpOne_cons (t := tvIs _) (tvIs_good _ _)
  case h1 => (intro W hI hl; have hx := lean_ofD hl 10 (by kernel_rfl); simp [upd, preAt] at hx; have y := HX8.out W _ hx.1; clear hx; clear hI hl; unfold oneAt; go_simp; exact one_isL)
  intro _
  rw [tvIs_f]
  go_simp
  apply wpOne_cons (t := tvIs _) (tvIs_good _ _)
  case h1 => (intro W hI hl; have y : ¬ 9223372036854775807 < SA.size + xc.size := (by first | omega | (rw [ByteArray.size_append]; omega)); clear hI hl; unfold oneAt; go_simp; exact one_isL)
  intro _
  rw [tvIs_f]
  go_simp
  apply wpOne_cons (t := tvIs _) (tvIs_good _ _)
  case h1 => (intro W hI hl; clear hI hl; unfold oneAt; go_simp; exact one_isL)
  intro _
  rw [tvIs_f]
  go_simp
  apply wpOne_cons (t := tvIs _) (tvIs_good _ _)
  case h1 => (intro W hI hl; clear hI hl; unfold oneAt; go_simp; exact one_isL)
  intro _
  rw [tvIs_f]
  go_simp
  apply wpOne_cons (t := tvIs _) (tvIs_good _ _)
  case h1 => (intro W hI hl; have y1 : (kn : Int) ≤ (cp : Int) := HKC.out; clear hI hl; unfold oneAt; go_simp; exact one_isL)
  intro _
  rw [tvIs_f]
  go_simp
  apply wpOne_cons (t := tvIs _) (tvIs_good _ _)
  case h1 => (intro W hI hl; have y := HC1.out W hI; clear hI hl; unfold oneAt; go_simp; exact one_isL)
  intro _
  rw [tvIs_f]
  go_simp
  apply wpOne_cons (t := tvIs _) (tvIs_good _ _)
  case h1 => (intro W hI hl; clear hI hl; unfold oneAt; go_simp; exact one_isL)
  intro _
  rw [tvIs_f]
  go_simp
  apply wpOne_cons (t := tvOne8 c) (tvOne8_good _ _ _)
  case h1 => (intro W hI hl; clear hI hl; unfold oneAt; go_simp; exact tvOne8_mk _)
  rintro ⟨xb, _⟩
  rw [tvOne8_f]
  go_simp
  apply wpOne_cons (t := tvIs _) (tvIs_good _ _)
  case h1 => (intro W hI hl; have hx := lean_ofD hl 18 (by kernel_rfl); simp [upd, preAt] at hx; have y := HX8.out W _ hx.1; clear hx; clear hI hl; unfold oneAt; go_simp; exact one_isL)
  intro _
  rw [tvIs_f]
  go_simp
  apply wpOne_cons (t := tvIs _) (tvIs_good _ _)
  case h1 => (intro W hI hl; have y : ¬ 9223372036854775807 < SB.size + xc.size := (by first | omega | (rw [ByteArray.size_append]; omega)); clear hI hl; unfold oneAt; go_simp; exact one_isL)
  intro _
  rw [tvIs_f]
  go_simp
  apply wpOne_cons (t := tvIs _) (tvIs_good _ _)
  case h1 => (intro W hI hl; clear hI hl; unfold oneAt; go_simp; exact one_isL)
  intro _
  rw [tvIs_f]
  go_simp
  apply wpOne_cons (t := tvIs _) (tvIs_good _ _)
  case h1 => (intro W hI hl; clear hI hl; unfold oneAt; go_simp; exact one_isL)
  intro _
  rw [tvIs_f]
  go_simp
  apply wpOne_cons (t := tvIs _) (tvIs_good _ _)
  case h1 => (intro W hI hl; have y1 : (kn : Int) ≤ (S.size : Int) := HKS.out; have y2 : ¬ cp = kn := HKN.out; clear hI hl; unfold oneAt; go_simp; exact one_isL)
  intro _
  rw [tvIs_f]
  go_simp
  apply wpOne_cons (t := tvIs _) (tvIs_good _ _)
  case h1 => (intro W hI hl; have y := HC2.out W hI; clear hI hl; unfold oneAt; go_simp; exact one_isL)
  intro _
  rw [tvIs_f]
  go_simp
  apply wpOne_cons (t := tvIs _) (tvIs_good _ _)
  case h1 => (intro W hI hl; have y : ¬ 9223372036854775807 < SB.size + xc.size + SC.size := (by first | omega | (rw [ByteArray.size_append]; omega)); clear hI hl; unfold oneAt; go_simp; exact one_isL)
  intro _
  rw [tvIs_f]
  go_simp
  apply wpOne_cons (t := tvFive w4.heap.size [s, SA, SB, SA ++ xc, SB ++ xc ++ SC]) (tvFive_good _ _ _ _)
  case h1 => (intro W hI hl; have hw := hI.size; clear hI hl; unfold oneAt; go_simp; exact tvFive_mk _ _ _ _ _ hw)
  rintro ⟨fb, _⟩
  rw [tvFive_f]
  go_simp
  apply wpOne_nil (Ts := [])
  intro w5 hI hF
  have hfin := hF 26
  simp [upd, preAt] at hfin
  -- END
  have HO5 : Hid (OwnL encN 9 w5 w4.heap.size (.slice (some ⟨fb, 0, none⟩) 5 5) [s, SA, SB, SA ++ xc, SB ++ xc ++ SC]) := hfin
  have HB5 : Hid (Below w4.heap.size w4 w5) := hI
  have HLS : Hid (∀ x ∈ [s, SA, SB, SA ++ xc, SB ++ xc ++ SC], x.size ≤ 100000) := by
    intro x hx
    simp only [List.mem_cons, List.not_mem_nil, or_false] at hx
    rcases hx with rfl | rfl | rfl | rfl | rfl
    · omega
    · omega
    · omega
    · rw [ByteArray.size_append]; omega
    · rw [ByteArray.size_append, ByteArray.size_append]; omega
  obtain ⟨L5, hL5⟩ : ∃ L5, L5 = [s, SA, SB, SA ++ xc, SB ++ xc ++ SC] := ⟨_, rfl⟩
  have HN5 : Hid (L5.length = 5) := by rw [hL5]; rfl
  rw [← hL5] at HO5 HLS
  clear hI hF hfin HC0 HC1 HC2 HX8 HKC HKS HKN hL5 HSA HSB HSC HXC
  obtain ⟨q, hq⟩ : ∃ q : Int, at_.tdiv 7 = q := ⟨_, rfl⟩
  have hq1 : -9223372036854775808 ≤ q ∧ q ≤ 9223372036854775807 := by
    have hb : -9223372036854775808 ≤ at_.tdiv 7 ∧ at_.tdiv 7 ≤ 9223372036854775807 := by
      rcases Int.le_total 0 at_ with h | h
      · rw [Int.tdiv_eq_ediv_of_nonneg h]; omega
      · have e : at_.tdiv 7 = -((-at_).tdiv 7) := by rw [Int.neg_tdiv]; omega
        rw [e, Int.tdiv_eq_ediv_of_nonneg (by omega)]; omega
    rw [← hq]; exact hb
  obtain ⟨k', hmod', k0', k1'⟩ := mod_any q 4 (by omega) (by omega) hq1.1 hq1.2
  obtain ⟨km, rfl⟩ : ∃ m : Nat, k' = (m : Int) := ⟨k'.toNat, by omega⟩
  obtain ⟨cv, hcv2, hcv⟩ := four_lt c km hc2 (by omega)
  have hkm : (km : Int) < 4 := by omega
  have hkn : kn < S.size := HK.out
  have hx := four_cell w5 c km cv hcv
  have hbx := below_box w5 (.cells #[.int .u8 60, .int .u8 62, .int .u8 44, .int .u8 (c : Int)] 5)
  obtain ⟨w6, hw6⟩ : ∃ x, w5.alloc (.cells #[.int .u8 60, .int .u8 62, .int .u8 44, .int .u8 (c : Int)] 5) = x := ⟨_, rfl⟩
  rw [hw6] at hx hbx
  have HB6 : Hid (Below w4.heap.size w4 w6) := HB5.out.trans (hbx.mono HB5.out.size)
  have HO6 := Lib.hid (OwnL.below HO5.out hbx)
  have HC6 : Hid (∀ j, j < S.size → w6.cell? ⟨tb, j, none⟩ = some (.int .u8 (S.data.toList.getD j 0).toNat)) := fun j hj => by
    rw [HB6.out.cell (p := ⟨tb, j, none⟩) HTB.out.2]; exact HBC.out j hj
  have hc0 : w6.cell? ⟨tb, kn, none⟩ = some (.int .u8 (S.data.toList.getD kn 0).toNat) := HC6.out kn hkn
  have hfz : w6.frozen? ⟨tb, kn, none⟩ = false := by
    rw [HB6.out.frozen (p := ⟨tb, kn, none⟩) HTB.out.2]
    have h0 := HBN.out
    have h1 : kn < (Lib.bytesCells w3 5 S).size := Nat.lt_of_lt_of_le hkn bytes_room
    simp [World.frozen?, h0]
    omega
  have hcv4 := set_text (cp := cp) HC6.out hkn hcv2
  obtain ⟨t2, ht2⟩ : ∃ t : ByteArray, t = ⟨(S.data.toList.set kn (UInt8.ofNat cv)).toArray⟩ := ⟨_, rfl⟩
  have HT2 : Hid (t2.size ≤ 100000) := by rw [ht2]; have := HL.out; show (List.toArray _).size ≤ 100000; simp; omega
  rw [← ht2] at hcv4
  have HO7 : Hid (OwnL encN 9 (w6.setCell ⟨tb, kn, none⟩ (.int .u8 (cv : Int))) w4.heap.size (.slice (some ⟨fb, 0, none⟩) 5 5) L5) := ownsRow_setCell_below HO6.out (a := ⟨tb, kn, none⟩) HTB.out.2 _
  have HZ7 : Hid (w4.heap.size ≤ (w6.setCell ⟨tb, kn, none⟩ (.int .u8 (cv : Int))).heap.size) := by rw [World.size_setCell]; exact HB6.out.size
  have HB7 : Hid (Below w.heap.size w (w6.setCell ⟨tb, kn, none⟩ (.int .u8 (cv : Int)))) := by
    refine Below.setCell (p := ⟨tb, kn, none⟩) ?_ HTB.out.1 _
    exact HB4.out.trans (HB6.out.mono HB4.out.size)
  obtain ⟨w7, hset⟩ : ∃ x, w6.setCell ⟨tb, kn, none⟩ (.int .u8 (cv : Int)) = x := ⟨_, rfl⟩
  rw [hset] at hcv4 HO7 HB7 HZ7
  have HMOD' := Lib.hid hmod'
  clear ht2 hmod' hcv hbx HB6 HC6 HO6 HO5 HB5 HBC HBN hkn
  -- S1
  go_wp2_with fail
  -- S2
  refine (HMOD'.out _).mono ?_
  rintro e w5' ⟨rfl, rfl⟩
  clear HMOD' hq1 hq
  -- S3
  have HC8 := Lib.hid (cellsAt_alloc w7 [.string t2] 9)
  have HO8 := Lib.hid (OwnL.below HO7.out (below_box w7 (.cells #[.string t2] 9)))
  have HB8 := Lib.hid (bnext HB7.out (below_box w7 (.cells #[.string t2] 9)))
  have HHS : Hid (5 + 1 ≤ maxLen) := by show _ ≤ _; unfold maxLen; omega
  have HZ8 : Hid (w4.heap.size ≤ (w7.alloc (.cells #[.string t2] 9)).heap.size) := by rw [World.size_alloc]; exact Nat.le_succ_of_le HZ7.out
  have HL5a : Hid (L5.length + 1 ≤ maxLen) := by show _ ≤ _; rw [HN5.out]; unfold maxLen; omega
  have HL5b : Hid ((L5.length + 1) * 16 ≤ 140737488355328) := by show _ ≤ _; rw [HN5.out]; omega
  go_wp2_with (at_builtin; refine wpList_appendAt (E := encN) Try.underlying25 info_st rfl rfl (.tmp 74) (.tmp 77) rfl w4.heap.size (.slice (some ⟨fb, 0, none⟩) 5 5) L5 rfl HO8.out w7.heap.size 1 t2 rfl HC8.out HL5a HL5b HZ8.out ?_)
  -- S4
  intro v' w8 hown hgr _
  have hsl := hown.sl
  obtain ⟨p6, n6, c6, rfl⟩ : ∃ p n c, v' = .slice p n c := by
    rcases hown.2 with ⟨rfl, _⟩ | ⟨g, cap, cur, rfl, _⟩
    · exact ⟨_, _, _, rfl⟩
    · exact ⟨_, _, _, rfl⟩
  obtain ⟨hn6, -, hat⟩ := hsl.strAt
  obtain ⟨L6, hL6⟩ : ∃ L6, L6 = L5 ++ [t2] := ⟨_, rfl⟩
  rw [← hL6] at hn6 hat
  have hl6 : L6.length = 6 := by rw [hL6, List.length_append, HN5.out]; rfl
  obtain rfl : n6 = 6 := by omega
  have HSZ : Hid (∀ j (hj : j < L6.length), L6[j].size ≤ 100000) := by
    intro j hj
    have hm : L6[j] ∈ L5 ++ [t2] := by rw [← hL6]; exact List.getElem_mem hj
    rcases List.mem_append.1 hm with h | h
    · exact HLS.out _ h
    · rw [List.mem_singleton.1 h]; exact HT2.out
  have HAT := Lib.hid hat
  have HL6 := Lib.hid hl6
  have HB9 : Hid (Below w.heap.size w w8) := HB8.out.trans ((OwnL.grown_below HO8.out hgr HZ8.out).mono HB4.out.size)
  clear hown hgr hsl hn6 hat hL6 hl6 HO7 HO8 HZ7 HZ8 HC8 HB8 HB7 HN5 HLS HT2 HL5a HL5b hx hw6 hc0 hfz hset hcv4 hcv2 hkm HHS HC hc2 hge HL HK HTB HB4
  go_wp2_with fail
  -- S5
  go_loopw [11] (fun v wr => ∃ j : Nat, j ≤ 6 ∧ v = .int .i64 j ∧ Hid (Below w8.heap.size w8 wr)) (fun i _ => 6 - (intOf i).toNat)
  case atStart => exact ⟨0, Nat.zero_le _, rfl, Below.refl _ _⟩
  case round =>
    obtain ⟨j, hj, rfl, hb⟩ := hrel
    by_cases hlt : j < 6
    · have hjl : j < L6.length := by rw [HL6.out]; exact hlt
      obtain ⟨pb, po, rfl, hc⟩ := HAT.out j hjl
      have hsz := HSZ.out j hjl
      obtain ⟨x, hx⟩ : ∃ x, x = L6[j]'hjl := ⟨_, rfl⟩
      rw [← hx] at hc hsz
      have hlj : (j : Int) < 6 := by omega
      have c0 := keepC hb.out hc
      have HC0 := Lib.hid c0
      have HSX : Hid (x.size ≤ 1000000000) := by show _ ≤ _; omega
      have HPA := Lib.hid (fun W => parse_any x W (by omega))
      have HRP := Lib.hid (fun W => rparse_any x W (by omega))
      have hpb : pb < wr.heap.size := World.block_lt_of_cell? wr _ c0
      clear hc hsz hx
      go_wp2_with fail
      -- S6
      refine (HPA.out _).mono ?_
      rintro e w9 (⟨⟨q1, p1, n1, k1⟩, t1, rfl, hv1, hip1, hb9⟩ | ⟨rfl, hv1, hb9⟩)
      · have hb10 := bnext hb9 (below_box w9 (.cells #[.string q1, .slice p1 n1 k1] tpT))
        have hn10 := heap_alloc_new w9 (.cells #[.string q1, .slice p1 n1 k1] tpT)
        have hip10 := hip1.later (below_box w9 (.cells #[.string q1, .slice p1 n1 k1] tpT))
        have c10 := keepC hb10 HC0.out
        obtain ⟨w10, hw10⟩ : ∃ y, w9.alloc (.cells #[.string q1, .slice p1 n1 k1] tpT) = y := ⟨_, rfl⟩
        rw [hw10] at hb10 hn10 hip10 c10
        obtain ⟨xb, hxb⟩ : ∃ y, y = w9.heap.size := ⟨_, rfl⟩
        rw [← hxb] at hn10
        have HB10 := Lib.hid hb10
        have HN10 := Lib.hid hn10
        have HI10 := Lib.hid hip10
        have HV1 := Lib.hid hv1
        have HXB := Lib.hid hxb
        clear hb10 hn10 hip10 hip1 hb9 hv1 hxb c0
        go_wp2_with fail
        -- S7
        rw [← HXB.out]
        refine (HRP.out _).mono ?_
        rintro e w11 (⟨⟨q2, p2, n2, k2⟩, t2', rfl, hv2, hip2, hb11⟩ | ⟨rfl, hv2, hb11⟩)
        · obtain rfl : t2' = t1 := by rw [HV1.out] at hv2; exact (Option.some.inj hv2).symm
          have hps := (parseV_sound hv2).1
          have hb12 := bnext hb11 (below_box w11 (.cells #[.string q2, .slice p2 n2 k2] tpT))
          have hn12 := heap_alloc_new w11 (.cells #[.string q2, .slice p2 n2 k2] tpT)
          have hip12 := hip2.later (below_box w11 (.cells #[.string q2, .slice p2 n2 k2] tpT))
          have hi12 := HI10.out.later hb12
          have hx12 := (hb12.block xb (heap_lt_of HN10.out)).trans HN10.out
          have HC12 := Lib.hid (keepC (bnext HB10.out hb12) HC0.out)
          obtain ⟨w12, hw12⟩ : ∃ y, w11.alloc (.cells #[.string q2, .slice p2 n2 k2] tpT) = y := ⟨_, rfl⟩
          rw [hw12] at hb12 hn12 hip12 hi12 hx12 HC12
          obtain ⟨yb, hyb⟩ : ∃ y, y = w11.heap.size := ⟨_, rfl⟩
          rw [← hyb] at hn12
          have HYB := Lib.hid hyb
          have HSM : Hid (∀ W, Below w12.heap.size w12 W → Calls Try.prog 22 #[.agg #[.string q1, .slice p1 n1 k1], .agg #[.string q2, .slice p2 n2 k2]] W fun e w' => e = .returned (.bool true) ∧ Below W.heap.size W w') := fun W hW =>
            (rsame_any t2' t2' ⟨q1, p1, n1, k1⟩ ⟨q2, p2, n2, k2⟩ W (hi12.later hW) (hip12.later hW)).mono (fun e w' ⟨b, h1, h2, h3⟩ => ⟨by rw [h1, h2.2 rfl], h3⟩)
          have hpl : (prL t2').length ≤ 1000000000 := by
            rw [← prS_data, hps, Fa.len_data]
            exact HSX.out
          have HPT : Hid (∀ W, Below w12.heap.size w12 W → Calls Try.prog 23 #[.agg #[.string q1, .slice p1 n1 k1]] W fun e w' => e = .returned (.string x) ∧ Below W.heap.size W w') := fun W hW =>
            (print_any _ ⟨q1, p1, n1, k1⟩ t2' W (hi12.later hW) hpl).mono (fun e w' ⟨h1, h3⟩ => ⟨by rw [h1, hps], h3⟩)
          have HB12 := Lib.hid (bnext HB10.out hb12)
          have x0 : w12.cell? ⟨xb, 0, none⟩ = some (.string q1) := by rw [Lib.cell_of_heap hx12]; rfl
          have x1 : w12.cell? ⟨xb, 1, none⟩ = some (.slice p1 n1 k1) := by rw [Lib.cell_of_heap hx12]; rfl
          have y0 : w12.cell? ⟨yb, 0, none⟩ = some (.string q2) := by rw [Lib.cell_of_heap hn12]; rfl
          have y1 : w12.cell? ⟨yb, 1, none⟩ = some (.slice p2 n2 k2) := by rw [Lib.cell_of_heap hn12]; rfl
          have gx0 := fun q => cell_grew x0 q
          have gx1 := fun q => cell_grew x1 q
          have gy0 := fun q => cell_grew y0 q
          have gy1 := fun q => cell_grew y1 q
          have gc := fun q => cell_grew HC12.out q
          clear hv2 hps hb12 hn12 hip12 hi12 hx12 hip2 hb11 hpl x0 x1 y0 y1 hyb HI10 HV1 HN10 HB10 HXB c10
          go_wp2_with fail
          rw [← HYB.out]
          -- S8
          refine wp_region_grew (by kernel_rfl) (by kernel_rfl) ?_
          repeat (go_big_quiet_step ((first | (go_at_call 22; exact Calls.grew_of (HSM.out _ (grew_below _ _))) | (go_at_call 23; exact Calls.grew_of (HPT.out _ (grew_below _ _))))))
          refine wpQuiet_nil ?_
          intro w13 hq
          have HQ := Lib.hid (of_grew hq)
          clear hq gx0 gx1 gy0 gy1 gc
          go_wp2_with fail
          -- S9
          go_roundw
          case rel => exact ⟨j + 1, by omega, by go_num, hb.out.trans ((bnext HB12.out HQ.out).mono hb.out.size)⟩
          case measure => simp [intOf]; omega
        · rw [HV1.out] at hv2
          cases hv2
      · have hb10 := bnext hb9 (below_box w9 (.cells #[.string ⟨#[]⟩, .slice none 0 0] tpT))
        have hn10 := heap_alloc_new w9 (.cells #[.string ⟨#[]⟩, .slice none 0 0] tpT)
        have c10 := keepC hb10 HC0.out
        obtain ⟨w10, hw10⟩ : ∃ y, w9.alloc (.cells #[.string ⟨#[]⟩, .slice none 0 0] tpT) = y := ⟨_, rfl⟩
        rw [hw10] at hb10 hn10
        have HW10 := Lib.hid hw10
        clear hw10
        obtain ⟨xb, hxb⟩ : ∃ y, y = w9.heap.size := ⟨_, rfl⟩
        rw [← hxb] at hn10
        have HB10 := Lib.hid hb10
        have HN10 := Lib.hid hn10
        have HV1 := Lib.hid hv1
        have HXB := Lib.hid hxb
        clear hb10 hn10 hb9 hv1 hxb c0
        go_wp2_with fail
        rw [HW10.out, ← HXB.out]
        refine (HRP.out _).mono ?_
        rintro e w11 (⟨⟨q2, p2, n2, k2⟩, t2', rfl, hv2, hip2, hb11⟩ | ⟨rfl, hv2, hb11⟩)
        · rw [HV1.out] at hv2
          cases hv2
        · have hb12 := bnext hb11 (below_box w11 (.cells #[.string ⟨#[]⟩, .slice none 0 0] tpT))
          have hn12 := heap_alloc_new w11 (.cells #[.string ⟨#[]⟩, .slice none 0 0] tpT)
          have hx12 := (hb12.block xb (heap_lt_of HN10.out)).trans HN10.out
          have HC12 := Lib.hid (keepC (bnext HB10.out hb12) HC0.out)
          obtain ⟨w12, hw12⟩ : ∃ y, w11.alloc (.cells #[.string ⟨#[]⟩, .slice none 0 0] tpT) = y := ⟨_, rfl⟩
          have hc12 := HC12.out
          rw [hw12] at hb12 hn12 hx12 HC12
          have HW12 := Lib.hid hw12
          clear hw12
          obtain ⟨yb, hyb⟩ : ∃ y, y = w11.heap.size := ⟨_, rfl⟩
          rw [← hyb] at hn12
          have HYB := Lib.hid hyb
          have hz : ∀ W : World, IsP (fun _ => True) W ⟨⟨#[]⟩, none, 0, 0⟩ (.mk ⟨#[]⟩ []) := fun W => IsP.node _ (IsPs.isNil _ _)
          have HSM : Hid (∀ W, Below w12.heap.size w12 W → Calls Try.prog 22 #[.agg #[.string ⟨#[]⟩, .slice none 0 0], .agg #[.string ⟨#[]⟩, .slice none 0 0]] W fun e w' => e = .returned (.bool true) ∧ Below W.heap.size W w') := fun W hW =>
            (rsame_any (.mk ⟨#[]⟩ []) (.mk ⟨#[]⟩ []) ⟨⟨#[]⟩, none, 0, 0⟩ ⟨⟨#[]⟩, none, 0, 0⟩ W (hz W) (hz W)).mono (fun e w' ⟨b, h1, h2, h3⟩ => ⟨by rw [h1, h2.2 rfl], h3⟩)
          have HB12 := Lib.hid (bnext HB10.out hb12)
          have x0 : w12.cell? ⟨xb, 0, none⟩ = some (.string ⟨#[]⟩) := by rw [Lib.cell_of_heap hx12]; rfl
          have x1 : w12.cell? ⟨xb, 1, none⟩ = some (.slice none 0 0) := by rw [Lib.cell_of_heap hx12]; rfl
          have y0 : w12.cell? ⟨yb, 0, none⟩ = some (.string ⟨#[]⟩) := by rw [Lib.cell_of_heap hn12]; rfl
          have y1 : w12.cell? ⟨yb, 1, none⟩ = some (.slice none 0 0) := by rw [Lib.cell_of_heap hn12]; rfl
          have gx0 := fun q => cell_grew x0 q
          have gx1 := fun q => cell_grew x1 q
          have gy0 := fun q => cell_grew y0 q
          have gy1 := fun q => cell_grew y1 q
          clear hv2 hb12 hn12 hx12 hb11 x0 x1 y0 y1 hyb HV1 HN10 HB10 HXB c10 hz
          go_wp2_with fail
          rw [HW12.out, ← HYB.out]
          refine wp_region_grew (by kernel_rfl) (by kernel_rfl) ?_
          repeat (go_big_quiet_step ((go_at_call 22; exact Calls.grew_of (HSM.out _ (grew_below _ _)))))
          refine wpQuiet_nil ?_
          intro w13 hq
          have HQ := Lib.hid (of_grew hq)
          clear hq gx0 gx1 gy0 gy1
          go_wp2_with fail
          go_roundw
          case rel => exact ⟨j + 1, by omega, by go_num, hb.out.trans ((bnext HB12.out HQ.out).mono hb.out.size)⟩
          case measure => simp [intOf]; omega
    · obtain rfl : j = 6 := by omega
      have HB10 := Lib.hid (HB9.out.trans (hb.out.mono HB9.out.size))
      clear hb HB9 HAT HSZ
      go_wp2_with fail
      refine (awake_any _).mono ?_
      rintro e w9 ⟨rfl, hb9⟩
      have HB11 := Lib.hid (bnext HB10.out hb9)
      clear hb9 HB10
      go_wp2_with fail
      go_ret
      exact ⟨rfl, HB11.out⟩
end Go.Proofs.Ytbnnokibjccdaaa
