/-
  CONTRACTS: numbers in decimal: the reference's Digits and ReadDigits.
-/
import Derived.Test.YthikdkeanndidaaDoorBase
import Derived.Test.YthikdkeanndidaaDoorFaP
import Derived.Test.YthikdkeanndidaaDoorChecked
import Derived.WalkKit
import Derived.WalkSpells
import Derived.WalkLawsBesides
import Derived.BigQuiet
import Derived.Lib.Hide
import Derived.KernelRfl
namespace Go.Proofs.YthikdkeanndidaaDoor
open Go Go.RowKit
set_option linter.unusedVariables false
set_option linter.unusedSimpArgs false

/-- string([]byte{c}) -/
theorem byteText (w : World) (c : Nat) (hc : c < 256) : (convert 74 9 (.slice (some ⟨w.heap.size, 0, none⟩) 1 1)).run Tryd.prog (w.alloc (.cells #[.int .u8 (c : Int)] 5)) = .ok (.string ⟨#[UInt8.ofNat c]⟩) (w.alloc (.cells #[.int .u8 (c : Int)] 5)) := by
  have h := run_convert_bytes_back (P := Tryd.prog) (w.alloc (.cells #[.int .u8 (c : Int)] 5)) 74 9 5 ⟨w.heap.size, 0, none⟩ 1 [UInt8.ofNat c] Tryd.underlying74 Tryd.underlying5 Tryd.underlying9 (by
    intro j hj
    simp at hj
    subst hj
    have e : (UInt8.ofNat c).toNat = c := by simp; omega
    rw [add_lit, cell_of_row _ w.heap.size (0 + 0) _ 5 (0, 0) (heap_alloc_new w _)]
    simp
    omega)
  simpa using h

/-- the bytes of a number -/
def itS (v : Int) : ByteArray := ⟨(Lib.itoa v).toArray⟩
theorem itS_size (v : Int) : (itS v).size = (Lib.itoa v).length := by simp [itS, ByteArray.size]
theorem itS_data (v : Int) : (itS v).data.toList = Lib.itoa v := by simp [itS]
theorem itS_nat (n : Nat) : itS (n : Int) = ⟨(Lib.decDigits n).toArray⟩ := by unfold itS; rw [Lib.itoa_nonneg]
theorem itS_one (n : Nat) (h : n < 10) : itS (n : Int) = ⟨#[UInt8.ofNat (48 + n)]⟩ := by rw [itS_nat, Lib.decDigits_one h]
theorem bytes_app (a b : List UInt8) : (⟨a.toArray⟩ : ByteArray) ++ ⟨b.toArray⟩ = ⟨(a ++ b).toArray⟩ := by
  apply ByteArray.ext
  simp
theorem itS_more (n : Nat) (h : ¬ n < 10) : itS ((n / 10 : Nat) : Int) ++ itS ((n % 10 : Nat) : Int) = itS (n : Int) := by
  rw [itS_nat, itS_nat, itS_nat, Fa.dec_snoc n h, bytes_app, Lib.decDigits_one (by omega : n % 10 < 10)]
theorem itS_neg (v : Int) (h : v < 0) : (⟨#[45]⟩ : ByteArray) ++ itS (-v) = itS v := by
  have e : Lib.itoa (-v) = Lib.decDigits v.natAbs := by
    have : -v = ((v.natAbs : Nat) : Int) := by omega
    rw [this, Lib.itoa_nonneg]
  unfold itS
  rw [e]
  have e2 : Lib.itoa v = 45 :: Lib.decDigits v.natAbs := by unfold Lib.itoa; rw [if_pos h]
  rw [e2]
  exact bytes_app [45] _

theorem rdig_one (n : Nat) (w : World) (h : n < 10) :
    Calls Tryd.prog 40 #[.int .i64 (n : Int)] w fun e w' => e = .returned (.string (itS (n : Int))) ∧ Below w.heap.size w w' := by
  have hlt : (n : Int) < 10 := by omega
  have hnn : ¬ (n : Int) < 0 := by omega
  have e1 : IntKind.i64.wrap (48 + (n : Int)) = 48 + (n : Int) := IntWalk.i64_in _ (by omega)
  have e2 : IntKind.u8.wrap (48 + (n : Int)) = 48 + (n : Int) := IntWalk.u8_in _ (by omega)
  have hcv := byteText w (48 + n) (by omega)
  have e3 : ((48 + n : Nat) : Int) = 48 + (n : Int) := by omega
  rw [e3] at hcv
  clear e3
  rw [itS_one n h]
  generalize UInt8.ofNat (48 + n) = c at *
  have HS : Hid (Below w.heap.size w (w.alloc (.cells #[.int .u8 (48 + (n : Int))] 5))) := (Below.refl _ _).alloc (Nat.le_refl _) _
  go_enter Tryd.func40, Tryd.ntmps40
  go_wp2_with fail
  go_ret
  exact ⟨rfl, HS.out⟩

theorem rdig_nat (n : Nat) : n ≤ 9223372036854775807 → ∀ w : World,
    Calls Tryd.prog 40 #[.int .i64 (n : Int)] w fun e w' => e = .returned (.string (itS (n : Int))) ∧ Below w.heap.size w w' := by
  induction n using Nat.strongRecOn with
  | ind n ih =>
    intro hn w
    by_cases h10 : n < 10
    · exact rdig_one n w h10
    · have hnn : ¬ (n : Int) < 0 := by omega
      have hge : ¬ (n : Int) < 10 := by omega
      have CA := fun w => ih (n / 10) (by omega) (by omega) w
      have CB := fun w => rdig_one (n % 10) w (by omega)
      have e0 : ((n / 10 : Nat) : Int) = (n : Int) / 10 := by omega
      have e1 : ((n % 10 : Nat) : Int) = (n : Int) % 10 := by omega
      have HE := Lib.hid (itS_more n h10)
      have z1 : (itS ((n / 10 : Nat) : Int)).size ≤ 20 := by rw [itS_size]; exact (Fa.itoa_len _ (by omega) (by omega)).1
      have z2 : (itS ((n % 10 : Nat) : Int)).size ≤ 20 := by rw [itS_size]; exact (Fa.itoa_len _ (by omega) (by omega)).1
      rw [e0] at CA HE z1
      rw [e1] at CB HE z2
      generalize itS ((n : Int) / 10) = s1 at *
      generalize itS ((n : Int) % 10) = s2 at *
      generalize itS (n : Int) = s at *
      have HA := Lib.hid CA
      have HB := Lib.hid CB
      clear CA CB e0 e1 ih h10
      go_enter Tryd.func40, Tryd.ntmps40
      go_wp2_with fail
      refine (HA.out _).mono ?_
      rintro e w1 ⟨rfl, hb1⟩
      have H1 := Lib.hid hb1
      clear hb1
      go_wp2_with fail
      refine (HB.out _).mono ?_
      rintro e w2 ⟨rfl, hb2⟩
      have H2 := Lib.hid hb2
      clear hb2
      go_wp2_with fail
      go_ret
      exact ⟨by rw [HE.out]; rfl, H1.out.trans (H2.out.mono H1.out.size)⟩

theorem rdig_any (v : Int) (h0 : -9223372036854775808 ≤ v) (h1 : v ≤ 9223372036854775807) (w : World) :
    Calls Tryd.prog 40 #[.int .i64 v] w fun e w' => e = .returned (.string (itS v)) ∧ Below w.heap.size w w' := by
  by_cases hv : 0 ≤ v
  · have := rdig_nat v.toNat (by omega) w
    rwa [show ((v.toNat : Nat) : Int) = v by omega] at this
  · by_cases hm : v = -9223372036854775808
    · subst hm
      have HE : Hid (itS (-9223372036854775808) = ⟨#[45, 57, 50, 50, 51, 51, 55, 50, 48, 51, 54, 56, 53, 52, 55, 55, 53, 56, 48, 56]⟩) := by
        show itS (-9223372036854775808) = _
        decide +kernel
      have hw : wrap64 9223372036854775808 = -9223372036854775808 := by unfold wrap64; omega
      go_enter Tryd.func40, Tryd.ntmps40
      go_wp2_with fail
      go_ret
      exact ⟨by rw [HE.out]; rfl, Below.refl _ _⟩
    · have hneg : v < 0 := by omega
      have e1 : IntKind.i64.wrap (-v) = -v := IntWalk.i64_in _ (by omega)
      have hq : (v == -v) = false := by rw [beq_eq_false_iff_ne]; omega
      have CA := fun w => rdig_nat (-v).toNat (by omega) w
      rw [show (((-v).toNat : Nat) : Int) = -v by omega] at CA
      have z1 : (itS (-v)).size ≤ 20 := by rw [itS_size]; exact (Fa.itoa_len _ (by omega) (by omega)).1
      have HE := Lib.hid (itS_neg v hneg)
      generalize itS (-v) = s1 at *
      generalize itS v = s at *
      have HA := Lib.hid CA
      clear CA
      go_enter Tryd.func40, Tryd.ntmps40
      go_wp2_with fail
      refine (HA.out _).mono ?_
      rintro e w1 ⟨rfl, hb1⟩
      have H1 := Lib.hid hb1
      clear hb1
      go_wp2_with fail
      go_ret
      exact ⟨by rw [HE.out]; rfl, H1.out⟩

theorem bytes_ne3 {a b : ByteArray} (h : a ≠ b) : (a.toList == b.toList) = false := by
  rw [Bool.eq_false_iff]
  intro e
  apply h
  have e := eq_of_beq e
  rw [ByteArray.toList_eq, ByteArray.toList_eq] at e
  exact ByteArray.ext (Array.toList_inj.1 e)
theorem wrap_in (x : Int) : -9223372036854775808 ≤ wrap64 x ∧ wrap64 x ≤ 9223372036854775807 := by unfold wrap64; omega
theorem fin_plus {l : List UInt8} (h : l.head? ≠ some 45) (v : Int) (hv : Fa.numOf l = some v) : wrap64 (-wrap64 (-(Fa.dv 0 l : Int))) = v := by
  obtain ⟨e, h0, h1⟩ := Fa.numOf_some hv
  have hd := Fa.dv_itoa v
  have hh := Fa.head_itoa v
  rw [e] at hd hh
  have hp : 0 ≤ v := by
    by_cases hp : 0 ≤ v
    · exact hp
    · exact absurd (hh.2 (by omega)) h
  rw [hd]
  unfold wrap64
  omega
theorem fin_minus {l : List UInt8} (h : l.head? = some 45) (v : Int) (hv : Fa.numOf l = some v) : wrap64 (-(Fa.dv 0 l : Int)) = v := by
  obtain ⟨e, h0, h1⟩ := Fa.numOf_some hv
  have hd := Fa.dv_itoa v
  have hh := Fa.head_itoa v
  rw [e] at hd hh
  have hp := hh.1 h
  rw [hd]
  unfold wrap64
  omega
theorem fin_yes {s : ByteArray} {M : Int} (h0 : -9223372036854775808 ≤ M) (h1 : M ≤ 9223372036854775807) (h : itS M = s) : (Fa.numOf s.data.toList).isSome = true := by
  rw [← h, itS_data, Fa.numOf_itoa M h0 h1]; rfl
theorem fin_no {s : ByteArray} {M : Int} (hv : ∀ v, Fa.numOf s.data.toList = some v → M = v) (h : itS M ≠ s) : (Fa.numOf s.data.toList).isSome = false := by
  cases hn : Fa.numOf s.data.toList with
  | none => rfl
  | some v =>
    obtain rfl := hv v hn
    exact absurd (ByteArray.ext (Array.toList_inj.1 (by rw [itS_data]; exact (Fa.numOf_some hn).1))) h

set_option maxHeartbeats 1000000 in
/-- reading a number -/
theorem rread_any (s : ByteArray) (w : World) (hs : s.size ≤ 1000000000) :
    Calls Tryd.prog 67 #[.string s] w fun e w' => (∃ n : Int, e = .returned (.tuple #[.int .i64 n, .bool (Fa.numOf s.data.toList).isSome]) ∧ ∀ v, Fa.numOf s.data.toList = some v → n = v) ∧ Below w.heap.size w w' := by
  have hl : s.data.toList.length = s.size := Fa.len_data s
  obtain ⟨o, ho⟩ : ∃ o, o = Fa.numOf s.data.toList := ⟨_, rfl⟩
  have HO := Lib.hid ho
  rw [← ho]
  clear ho
  go_enter Tryd.func67, Tryd.ntmps67
  go_wp2_with fail
  go_loop [4, 5] (fun k i => ∃ (j : Nat) (N : Int), j ≤ s.size ∧ i = .int .i64 j ∧ k = .int .i64 N ∧ Hid (N = wrap64 (-(Fa.dv 0 (s.data.toList.take j) : Int)))) (fun _ i => s.size - (intOf i).toNat)
  case atStart => exact ⟨0, 0, Nat.zero_le _, rfl, rfl, by show _ = _; simp [Fa.dv, wrap64]⟩
  case round =>
    obtain ⟨j, N, hj, rfl, rfl, hN⟩ := hrel
    by_cases hlt : j < s.size
    · have hlti : (j : Int) < (s.size : Int) := by omega
      have hst : Fa.dv 0 (s.data.toList.take (j + 1)) = if 48 ≤ (s[j]'hlt).toNat ∧ (s[j]'hlt).toNat ≤ 57 then Fa.dv 0 (s.data.toList.take j) * 10 + ((s[j]'hlt).toNat - 48) else Fa.dv 0 (s.data.toList.take j) := by
        rw [List.take_succ_eq_append_getElem (by rw [hl]; exact hlt), Fa.dv_snoc]
        rfl
      have hc : (s[j]'hlt).toNat < 256 := UInt8.toNat_lt _
      obtain ⟨c, hcc⟩ : ∃ c, c = (s[j]'hlt).toNat := ⟨_, rfl⟩
      have HCC := Lib.hid hcc
      rw [← hcc] at hst hc
      by_cases h48 : 48 ≤ c
      · have h48i : (48 : Int) ≤ ((s[j]'hlt).toNat : Int) := by omega
        by_cases h57 : c ≤ 57
        · have h57i : ((s[j]'hlt).toNat : Int) ≤ 57 := by omega
          have ew : IntKind.u8.wrap (((s[j]'hlt).toNat : Int) - 48) = ((s[j]'hlt).toNat : Int) - 48 := IntWalk.u8_in _ (by omega)
          have ew2 : IntKind.i64.wrap (((s[j]'hlt).toNat : Int) - 48) = ((s[j]'hlt).toNat : Int) - 48 := IntWalk.i64_in _ (by omega)
          have HST : Hid (wrap64 (wrap64 (N * 10) - (((s[j]'hlt).toNat : Int) - 48)) = wrap64 (-(Fa.dv 0 (s.data.toList.take (j + 1)) : Int))) := by
            show _ = _
            rw [hst, if_pos ⟨h48, h57⟩, hN.out, Fa.wrap_step]
            congr 1
            omega
          clear hst h48 h57 hcc
          go_wp2_with fail
          go_round
          case rel => exact ⟨j + 1, _, by omega, by go_num, rfl, HST⟩
          case measure => simp [intOf]; omega
        · have h57i : ¬ ((s[j]'hlt).toNat : Int) ≤ 57 := by omega
          have HST : Hid (N = wrap64 (-(Fa.dv 0 (s.data.toList.take (j + 1)) : Int))) := by
            show _ = _
            rw [hst, if_neg (fun h => h57 h.2)]
            exact hN.out
          clear hst h48 h57 hcc
          go_wp2_with fail
          go_round
          case rel => exact ⟨j + 1, _, by omega, by go_num, rfl, HST⟩
          case measure => simp [intOf]; omega
      · have h48i : ¬ (48 : Int) ≤ ((s[j]'hlt).toNat : Int) := by omega
        have HST : Hid (N = wrap64 (-(Fa.dv 0 (s.data.toList.take (j + 1)) : Int))) := by
          show _ = _
          rw [hst, if_neg (fun h => h48 h.1)]
          exact hN.out
        clear hst h48 hcc
        go_wp2_with fail
        go_round
        case rel => exact ⟨j + 1, _, by omega, by go_num, rfl, HST⟩
        case measure => simp [intOf]; omega
    · obtain rfl : j = s.size := by omega
      have hN2 : N = wrap64 (-(Fa.dv 0 s.data.toList : Int)) := by have := hN.out; rwa [← hl, List.take_length] at this
      have hb := wrap_in (-(Fa.dv 0 s.data.toList : Int))
      by_cases h0 : 0 < s.size
      · have h0i : (0 : Int) < (s.size : Int) := by omega
        have hhd : s.data.toList.head? = some (s[0]'h0) := by
          rw [List.head?_eq_getElem?]
          rw [List.getElem?_eq_getElem (by omega)]
          rfl
        by_cases h20 : s.size ≤ 20
        · have h20i : (s.size : Int) ≤ 20 := by omega
          by_cases h45 : s[0]'h0 = 45
          · have h45q : (((s[0]'h0).toNat : Int) != 45) = false := by rw [h45]; rfl
            have hfin : ∀ v, Fa.numOf s.data.toList = some v → N = v := fun v hv => by rw [hN2]; exact fin_minus (by rw [hhd, h45]) v hv
            have HD := Lib.hid (fun w => rdig_any N (by rw [hN2]; exact hb.1) (by rw [hN2]; exact hb.2) w)
            have HF := Lib.hid hfin
            have z1 : (itS N).size ≤ 20 := by rw [itS_size]; exact (Fa.itoa_len _ (by rw [hN2]; exact hb.1) (by rw [hN2]; exact hb.2)).1
            by_cases he : itS N = s
            · have hq : ((itS N).toList == s.toList) = true := by rw [he]; simp
              have hob : o.isSome = true := by rw [HO.out]; exact fin_yes (by rw [hN2]; exact hb.1) (by rw [hN2]; exact hb.2) he
              clear hN2 hb hhd h45 hfin he hN
              generalize itS N = sN at *
              go_wp2_with fail
              refine (HD.out _).mono ?_
              rintro e w1 ⟨rfl, hb1⟩
              have H1 := Lib.hid hb1
              clear hb1
              go_wp2_with fail
              go_ret2
              exact ⟨⟨N, by rw [hob]; rfl, fun v hv => HF.out v (by rw [← HO.out]; exact hv)⟩, H1.out⟩
            · have hq := bytes_ne3 he
              have hob : o.isSome = false := by rw [HO.out]; exact fin_no hfin he
              clear hN2 hb hhd h45 hfin he hN
              generalize itS N = sN at *
              go_wp2_with fail
              refine (HD.out _).mono ?_
              rintro e w1 ⟨rfl, hb1⟩
              have H1 := Lib.hid hb1
              clear hb1
              go_wp2_with fail
              go_ret2
              exact ⟨⟨N, by rw [hob]; rfl, fun v hv => HF.out v (by rw [← HO.out]; exact hv)⟩, H1.out⟩
          · have h45q : (((s[0]'h0).toNat : Int) != 45) = true := by
              rw [bne_iff_ne]
              intro e
              apply h45
              apply UInt8.toNat_inj.1
              show _ = 45
              omega
            obtain ⟨M, hM⟩ : ∃ M, M = wrap64 (-N) := ⟨_, rfl⟩
            have hfin : ∀ v, Fa.numOf s.data.toList = some v → M = v := fun v hv => by rw [hM, hN2]; exact fin_plus (by rw [hhd]; intro e; injection e with e; exact h45 e) v hv
            have hbM := wrap_in (-N)
            rw [← hM] at hbM
            have HD := Lib.hid (fun w => rdig_any M hbM.1 hbM.2 w)
            have HF := Lib.hid hfin
            have z1 : (itS M).size ≤ 20 := by rw [itS_size]; exact (Fa.itoa_len _ hbM.1 hbM.2).1
            have hw : IntKind.i64.wrap (-N) = M := by rw [hM]; exact IntWalk.i64_left _
            by_cases he : itS M = s
            · have hq : ((itS M).toList == s.toList) = true := by rw [he]; simp
              have hob : o.isSome = true := by rw [HO.out]; exact fin_yes hbM.1 hbM.2 he
              have hM' := hM.symm
              clear hN2 hb hhd h45 hfin he hN hM hbM
              generalize itS M = sN at *
              go_wp2_with fail
              refine (HD.out _).mono ?_
              rintro e w1 ⟨rfl, hb1⟩
              have H1 := Lib.hid hb1
              clear hb1
              go_wp2_with fail
              go_ret2
              exact ⟨⟨M, by rw [hob]; rfl, fun v hv => HF.out v (by rw [← HO.out]; exact hv)⟩, H1.out⟩
            · have hq := bytes_ne3 he
              have hob : o.isSome = false := by rw [HO.out]; exact fin_no hfin he
              have hM' := hM.symm
              clear hN2 hb hhd h45 hfin he hN hM hbM
              generalize itS M = sN at *
              go_wp2_with fail
              refine (HD.out _).mono ?_
              rintro e w1 ⟨rfl, hb1⟩
              have H1 := Lib.hid hb1
              clear hb1
              go_wp2_with fail
              go_ret2
              exact ⟨⟨M, by rw [hob]; rfl, fun v hv => HF.out v (by rw [← HO.out]; exact hv)⟩, H1.out⟩
        · have h20i : ¬ (s.size : Int) ≤ 20 := by omega
          have hnone : Fa.numOf s.data.toList = none := Fa.numOf_long (by omega)
          have hob : o = none := by rw [HO.out]; exact hnone
          have HOB := Lib.hid hob
          clear hob
          have hq : ∃ b : Bool, (((s[0]'h0).toNat : Int) != 45) = b := ⟨_, rfl⟩
          obtain ⟨b, hq⟩ := hq
          clear hN2 hb hhd hN hnone
          cases b
          · go_wp2_with fail
            go_ret2
            exact ⟨⟨_, by rw [HOB.out]; rfl, fun v hv => by rw [HOB.out] at hv; cases hv⟩, Below.refl _ _⟩
          · go_wp2_with fail
            go_ret2
            exact ⟨⟨_, by rw [HOB.out]; rfl, fun v hv => by rw [HOB.out] at hv; cases hv⟩, Below.refl _ _⟩
      · have h0i : ¬ (0 : Int) < (s.size : Int) := by omega
        have hnone : Fa.numOf s.data.toList = none := by rw [List.eq_nil_of_length_eq_zero (show s.data.toList.length = 0 by omega)]; exact Fa.numOf_nil
        have hob : o = none := by rw [HO.out]; exact hnone
        have HOB := Lib.hid hob
        clear hob
        clear hN2 hb hN hnone
        go_wp2_with fail
        go_ret2
        exact ⟨⟨_, by rw [HOB.out]; rfl, fun v hv => by rw [HOB.out] at hv; cases hv⟩, Below.refl _ _⟩
end Go.Proofs.YthikdkeanndidaaDoor
