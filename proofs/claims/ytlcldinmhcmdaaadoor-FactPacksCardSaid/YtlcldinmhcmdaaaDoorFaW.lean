/-
  THE WALK of the statement about packs.
-/
import Derived.Test.YtlcldinmhcmdaaaDoorFaA
import Derived.Test.YtlcldinmhcmdaaaDoorMod
import Derived.Lib.ConvBytes
import Derived.Lib.AtoiErrMem
namespace Go.Proofs.YtlcldinmhcmdaaaDoor
open Go Go.RowKit
set_option linter.unusedVariables false
set_option linter.unusedSimpArgs false
set_option maxRecDepth 100000

def sumL (L : List ByteArray) : Nat := (L.map ByteArray.size).sum
theorem sumL_take {L : List ByteArray} {j : Nat} (hj : j < L.length) : sumL (L.take (j + 1)) = sumL (L.take j) + (L[j]'hj).size := by
  unfold sumL
  rw [List.take_succ_eq_append_getElem hj, List.map_append, List.sum_append]
  simp
theorem sumL_le {L : List ByteArray} {B : Nat} (h : ∀ x ∈ L, x.size ≤ B) : sumL L ≤ L.length * B := by
  induction L with
  | nil => simp [sumL]
  | cons x L ih =>
    have h1 := ih (fun y hy => h y (List.mem_cons_of_mem _ hy))
    have h2 := h x (by simp)
    unfold sumL at h1 ⊢
    simp only [List.map_cons, List.sum_cons, List.length_cons, Nat.succ_mul]
    omega
theorem packL_sum {L : List ByteArray} (h : ∀ x ∈ L, x.size ≤ 140737488355328) : (Fa.packL L).length ≤ sumL L + 21 * L.length := by
  induction L with
  | nil => simp [Fa.packL]
  | cons x L ih =>
    have h1 := ih (fun y hy => h y (List.mem_cons_of_mem _ hy))
    have h2 := h x (by simp)
    have h3 := (Fa.itoa_len (x.size : Int) (by omega) (by omega)).1
    unfold sumL at h1 ⊢
    simp only [Fa.packL, List.map_cons, List.sum_cons, List.length_cons, List.length_append, Fa.len_data]
    omega

/-- the eight texts that are read -/
def eight (a b c : ByteArray) : List ByteArray := [a, b, c, ⟨#[48, 49, 58, 97]⟩, ⟨#[45, 49, 58]⟩, ⟨#[49, 58]⟩, ⟨#[58]⟩, ⟨#[50, 58, 97]⟩]
theorem eight_size {a b c : ByteArray} (ha : a.size ≤ 1000000) (hb : b.size ≤ 1000000) (hc : c.size ≤ 1000000) : ∀ y ∈ eight a b c, y.size ≤ 1000000 := by
  intro y hy
  simp only [eight, List.mem_cons, List.not_mem_nil, or_false] at hy
  rcases hy with rfl | rfl | rfl | rfl | rfl | rfl | rfl | rfl
  · exact ha
  · exact hb
  · exact hc
  all_goals decide
theorem bytes_frozen {w wb : World} {ps : ByteArray} {e : TypeId} {k : Nat} (h : wb.heap[w.heap.size]? = some (.cells (Lib.bytesCells w e ps) e ((Lib.bytesCells w e ps).size, (Lib.bytesCells w e ps).size + 1))) (hk : k < (Lib.bytesCells w e ps).size) : wb.frozen? ⟨w.heap.size, k, none⟩ = false := by
  simp [World.frozen?, h]
  omega

theorem bytes_room {w : World} {e : TypeId} {ps : ByteArray} : ps.size ≤ (Lib.bytesCells w e ps).size := by
  unfold Lib.bytesCells
  rw [Array.size_append, Array.size_map]
  exact Nat.le_add_right ps.data.size _
theorem set_text {b k cv cp : Nat} {wb : World} {ps : ByteArray} (hc : ∀ j, j < ps.size → wb.cell? ⟨b, j, none⟩ = some (.int .u8 (ps.data.toList.getD j 0).toNat)) (hk : k < ps.size) (hcv : cv < 256) :
    (convert 29 9 (.slice (some ⟨b, 0, none⟩) ps.size cp)).run Tryd.prog (wb.setCell ⟨b, k, none⟩ (.int .u8 (cv : Int))) = .ok (.string ⟨(ps.data.toList.set k (UInt8.ofNat cv)).toArray⟩) (wb.setCell ⟨b, k, none⟩ (.int .u8 (cv : Int))) := by
  have hlen : (ps.data.toList.set k (UInt8.ofNat cv)).length = ps.size := by rw [List.length_set, Fa.len_data]
  have h := run_convert_bytes_back (P := Tryd.prog) (wb.setCell ⟨b, k, none⟩ (.int .u8 (cv : Int))) 29 9 5 ⟨b, 0, none⟩ cp (ps.data.toList.set k (UInt8.ofNat cv)) Tryd.underlying29 Tryd.underlying5 Tryd.underlying9 (by
    intro j hj
    rw [hlen] at hj
    have h0 := hc j hj
    rw [add_lit, Nat.zero_add]
    by_cases e : j = k
    · subst e
      rw [World.cell?_setCell_same _ _ _ h0, List.getElem_set_self]
      have : (UInt8.ofNat cv).toNat = cv := by simp; omega
      rw [this]
    · rw [World.cell?_setCell_other _ _ _ _ (by intro h; injection h with _ h _; exact e h.symm), h0, List.getElem_set_ne (fun h => e h.symm)]
      rw [List.getD_eq_getElem?_getD, List.getElem?_eq_getElem (by rw [Fa.len_data]; exact hj)]
      rfl)
  rwa [hlen] at h

set_option maxHeartbeats 4000000 in
theorem packs_walk (p : Option Addr) (n c : Nat) (L : List ByteArray) (s : ByteArray) (at_ : Int) (w : World) (hl : SlIs encN w (.slice p n c) L) (hz : ∀ x ∈ L, x.size ≤ 140737488355328) (hs : s.size ≤ maxLen)
    (a1 : -9223372036854775808 ≤ at_) (a2 : at_ ≤ 9223372036854775807) (hw : LaidW w) :
    Calls Tryd.prog 3 #[.slice p n c, .string s, .int .i64 at_] w fun e w' => e = .returned (.bool true) ∧ Below w.heap.size w w' := by
  obtain ⟨e1, hm1, g1⟩ := hl.strAt
  subst e1
  unfold maxLen at hm1 hs
  have G1 := Lib.hid g1
  have HL := Lib.hid hl
  have HZ := Lib.hid hz
  have HW := Lib.hid hw
  clear hl g1 hz hw
  by_cases hbig : 100 < L.length
  · have hbi : (100 : Int) < (L.length : Int) := by omega
    go_enter Tryd.func3, Tryd.ntmps3
    go_wp2_with fail
    refine (awake10_any _ HW.out).mono ?_
    rintro e w1 ⟨rfl, hb⟩
    have HB1 := Lib.hid hb
    clear hb
    go_wp2_with fail
    go_ret
    exact ⟨rfl, HB1.out⟩
  · have hbi : ¬ (100 : Int) < (L.length : Int) := by omega
    by_cases hsb : 2000 < s.size
    · have hsi : (2000 : Int) < (s.size : Int) := by omega
      go_enter Tryd.func3, Tryd.ntmps3
      go_wp2_with fail
      refine (awake10_any _ HW.out).mono ?_
      rintro e w1 ⟨rfl, hb⟩
      have HB1 := Lib.hid hb
      clear hb
      go_wp2_with fail
      go_ret
      exact ⟨rfl, HB1.out⟩
    · have hsi : ¬ (2000 : Int) < (s.size : Int) := by omega
      have hall := sumL_le HZ.out
      have HALL : Hid (sumL L ≤ 100 * 140737488355328) := Nat.le_trans hall (Nat.mul_le_mul_right _ (by omega))
      clear hall
      obtain ⟨cv, hcv⟩ : ∃ cv : Nat, at_ / 512 % 256 = (cv : Int) := ⟨(at_ / 512 % 256).toNat, by omega⟩
      have hcv2 : cv < 256 := by omega
      go_enter Tryd.func3, Tryd.ntmps3
      go_wp2_with fail
      go_loop [8, 9] (fun k i => ∃ j m : Nat, j ≤ L.length ∧ i = .int .i64 j ∧ k = .int .i64 m ∧ Hid (m = sumL (L.take j))) (fun _ i => L.length - (intOf i).toNat)
      case atStart => exact ⟨0, 0, Nat.zero_le _, rfl, rfl, rfl⟩
      case round =>
        obtain ⟨j, m, hj, rfl, rfl, hm⟩ := hrel
        have hmle : m ≤ sumL L := by
          rw [hm.out]
          unfold sumL
          conv => rhs; rw [← List.take_append_drop j L]
          rw [List.map_append, List.sum_append]
          omega
        have hmb : m ≤ 14073748835532800 := Nat.le_trans hmle HALL.out
        by_cases hlt : j < L.length
        · have hlti : (j : Int) < (L.length : Int) := by omega
          obtain ⟨b1, o1, rfl, x0⟩ := G1.out j hlt
          have hst := sumL_take hlt
          have hxz := HZ.out (L[j]'hlt) (List.getElem_mem hlt)
          obtain ⟨x, hx⟩ : ∃ x, x = L[j]'hlt := ⟨_, rfl⟩
          rw [← hx] at x0 hst hxz
          have HM : Hid (m + x.size = sumL (L.take (j + 1))) := by show _ = _; rw [hst, ← hm.out]
          have ew : IntKind.i64.wrap ((m : Int) + (x.size : Int)) = (m : Int) + (x.size : Int) := IntWalk.i64_in _ (by omega)
          clear hst hx hmle hm
          go_wp2_with fail
          go_round
          case rel => exact ⟨j + 1, m + x.size, by omega, by go_num, by go_num, HM⟩
          case measure => simp [intOf]; omega
        · obtain rfl : j = L.length := by omega
          have hm2 : m = sumL L := by have := hm.out; rwa [List.take_length] at this
          clear hm hmle
          by_cases h5 : 5000 < m
          · have h5i : (5000 : Int) < (m : Int) := by omega
            clear hm2
            go_wp2_with fail
            refine (awake10_any _ HW.out).mono ?_
            rintro e w1 ⟨rfl, hb⟩
            have HB1 := Lib.hid hb
            clear hb
            go_wp2_with fail
            go_ret
            exact ⟨rfl, HB1.out⟩
          · have h5i : ¬ (5000 : Int) < (m : Int) := by omega
            have hpl := packL_sum HZ.out
            have hpl2 : (Fa.packL L).length ≤ 8000 := by omega
            obtain ⟨ps, hps⟩ : ∃ s, s = packS L := ⟨_, rfl⟩
            have hpd : ps.data.toList = Fa.packL L := by rw [hps]; simp [packS]
            have hpz : ps.size ≤ 8000 := by rw [← Fa.len_data, hpd]; exact hpl2
            have HPD := Lib.hid hpd
            have HP := Lib.hid (fun w' (hb : Below w.heap.size w w') => pack_any L p L.length c w' (HL.out.below hb) (by omega) (HW.out.below hb))
            have HRP := Lib.hid (fun w' (hb : Below w.heap.size w w') => rpack_any L p L.length c w' (HL.out.below hb) (by omega))
            rw [← hps] at HP HRP
            have hg : Fa.Got ps.data.toList L true := ⟨fun _ => hpd.symm, fun e => by cases e⟩
            have HG := Lib.hid hg
            have hq : (ps.toList == ps.toList) = true := beq_self_eq_true _
            clear hm2 hpl hpl2 hps hpd hg hmb
            go_wp2_with fail
            refine (HP.out _ (Below.refl _ _)).mono ?_
            rintro e w1 ⟨rfl, hb1⟩
            have HB1 := Lib.hid hb1
            clear hb1 HP
            go_wp2_with fail
            refine (unpack_any ps _ (by omega) (HW.out.below HB1.out)).mono ?_
            rintro e w2 ⟨⟨v2, L2, b2, rfl, hs2, hg2⟩, hb2⟩
            obtain ⟨eL, eb⟩ := Fa.Got.same (by rw [Fa.len_data]; omega) hg2 HG.out
            subst eb
            rw [eL] at hs2
            have HB2 := Lib.hid (HB1.out.trans (hb2.mono HB1.out.size))
            obtain ⟨p2, c2, rfl, hs2a⟩ := hs2
            have HS2 : Hid (SlIs encN w2 (.slice p2 L.length c2) L) := ⟨p2, c2, rfl, hs2a⟩
            clear hs2a hb2 hg2 eL
            go_wp2_with fail
            refine (HRP.out _ HB2.out).mono ?_
            rintro e w3 ⟨rfl, hb3⟩
            have HB3 := Lib.hid (HB2.out.trans (hb3.mono HB2.out.size))
            have HS3 := Lib.hid (HS2.out.below hb3)
            clear hb3 HRP HS2
            go_wp2_with fail
            refine (sameTexts_any L L p2 p L.length L.length c2 c _ HS3.out (HL.out.below HB3.out)).mono ?_
            rintro e w5 ⟨⟨b, rfl, hbt⟩, hb5⟩
            obtain rfl : b = true := hbt.2 rfl
            have HB5 := Lib.hid (HB3.out.trans (hb5.mono HB3.out.size))
            clear hb5 hbt HS3 HB3 HB2 HB1
            have hcv3 := Lib.run_convert_string_bytes (P := Tryd.prog) w5 9 29 5 ps Tryd.underlying9 Tryd.underlying29 Tryd.underlying5
            have HBB := Lib.hid (Lib.bytesWorld_below w5 5 ps)
            have HBC := Lib.hid (fun j hj => Lib.bytesWorld_cell w5 5 ps j hj)
            have HBN := Lib.hid (Lib.bytesWorld_at_new w5 5 ps)
            obtain ⟨wb, hwb⟩ : ∃ x, x = Lib.bytesWorld w5 5 ps := ⟨_, rfl⟩
            rw [← hwb] at hcv3 HBB HBC HBN
            obtain ⟨cp, hcp⟩ : ∃ x, x = grownCap w5 ps.size 0 5 := ⟨_, rfl⟩
            rw [← hcp] at hcv3
            have HCP := Lib.hid hcp
            clear hwb hcp
            by_cases h0 : 0 < ps.size
            · have h0i : (0 : Int) < (ps.size : Int) := by omega
              obtain ⟨k, hmod, k0, k1⟩ := mod_any at_ (ps.size : Int) (by omega) (by omega) a1 a2
              obtain ⟨kn, rfl⟩ : ∃ m : Nat, k = (m : Int) := ⟨k.toNat, by omega⟩
              have HMOD := Lib.hid hmod
              clear hmod
              have hkn : kn < ps.size := by omega
              obtain ⟨t2, ht2⟩ : ∃ t : ByteArray, t = ⟨(ps.data.toList.set kn (UInt8.ofNat cv)).toArray⟩ := ⟨_, rfl⟩
              have ht2z : t2.size ≤ 8000 := by rw [ht2, ← Fa.len_data]; simp; omega
              have hc0 : wb.cell? ⟨w5.heap.size, kn, none⟩ = some (.int .u8 (ps.data.toList.getD kn 0).toNat) := HBC.out kn hkn
              have hfz : wb.frozen? ⟨w5.heap.size, kn, none⟩ = false := bytes_frozen HBN.out (Nat.lt_of_lt_of_le hkn bytes_room)
              have hcv4 := set_text (cp := cp) HBC.out hkn hcv2
              rw [← ht2] at hcv4
              obtain ⟨wc, hset⟩ : ∃ x, wb.setCell ⟨w5.heap.size, kn, none⟩ (.int .u8 (cv : Int)) = x := ⟨_, rfl⟩
              have HBWC : Hid (Below w.heap.size w wc) := by
                show Below _ _ _
                rw [← hset]
                exact (HB5.out.trans (HBB.out.mono HB5.out.size)).setCell (p := ⟨w5.heap.size, kn, none⟩) HB5.out.size _
              rw [hset] at hcv4
              clear ht2
              have HYC : Hid (CellsAt (wc.alloc (.cells #[.string s, .string t2, .string (ps ++ s), .string ⟨#[48, 49, 58, 97]⟩, .string ⟨#[45, 49, 58]⟩, .string ⟨#[49, 58]⟩, .string ⟨#[58]⟩, .string ⟨#[50, 58, 97]⟩] 9)) wc.heap.size 0 (encN.all (eight s t2 (ps ++ s)))) := cellsAt_alloc wc [.string s, .string t2, .string (ps ++ s), .string ⟨#[48, 49, 58, 97]⟩, .string ⟨#[45, 49, 58]⟩, .string ⟨#[49, 58]⟩, .string ⟨#[58]⟩, .string ⟨#[50, 58, 97]⟩] _
              have HBD : Hid (Below w.heap.size w (wc.alloc (.cells #[.string s, .string t2, .string (ps ++ s), .string ⟨#[48, 49, 58, 97]⟩, .string ⟨#[45, 49, 58]⟩, .string ⟨#[49, 58]⟩, .string ⟨#[58]⟩, .string ⟨#[50, 58, 97]⟩] 9))) := HBWC.out.trans ((below_box wc _).mono HBWC.out.size)
              have HYZ : Hid (∀ y ∈ eight s t2 (ps ++ s), y.size ≤ 1000000) := eight_size (by omega) (by omega) (by rw [ByteArray.size_append]; omega)
              have hcat : ¬ 9223372036854775807 < ps.size + s.size := by omega
              go_wp2_with fail
              refine (HMOD.out _).mono ?_
              rintro e w' ⟨rfl, rfl⟩
              go_wp2_with fail
              obtain ⟨wd, hwd⟩ : ∃ x, x = wc.alloc (.cells #[.string s, .string t2, .string (ps ++ s), .string ⟨#[48, 49, 58, 97]⟩, .string ⟨#[45, 49, 58]⟩, .string ⟨#[49, 58]⟩, .string ⟨#[58]⟩, .string ⟨#[50, 58, 97]⟩] 9) := ⟨_, rfl⟩
              rw [← hwd] at HYC HBD
              go_loopw [11, 12, 15, 16, 17, 87] (fun _ _ _ _ _ i wr => ∃ k : Nat, k ≤ 8 ∧ i = .int .i64 k ∧ Hid (Below wd.heap.size wd wr)) (fun _ _ _ _ _ i _ => 8 - (intOf i).toNat)
              case atStart => exact ⟨0, by omega, rfl, by show Below _ _ _; rw [hwd]; exact Below.refl _ _⟩
              case round =>
                obtain ⟨k, hk, rfl, HR⟩ := hrel
                obtain ⟨wx, rfl⟩ : ∃ x, x = wr := ⟨wr, rfl⟩
                have HBX := Lib.hid (HBD.out.trans (HR.out.mono HBD.out.size))
                by_cases hk8 : k < 8
                · have hk8i : (k : Int) < 8 := by omega
                  have hlen8 : (eight s t2 (ps ++ s)).length = 8 := rfl
                  have y0 := (HYC.out.below HR.out).elem k (by rw [hlen8]; exact hk8) 0 (by decide) _ rfl
                  have hyz := HYZ.out ((eight s t2 (ps ++ s))[k]'(by rw [hlen8]; exact hk8)) (List.getElem_mem _)
                  obtain ⟨y, hy⟩ : ∃ y, y = (eight s t2 (ps ++ s))[k]'(by rw [hlen8]; exact hk8) := ⟨_, rfl⟩
                  rw [← hy] at y0 hyz
                  have y1 : wx.cell? ⟨wc.heap.size, k, none⟩ = some (.string y) := by simpa [encN] using y0
                  have hqy : (y.toList == y.toList) = true := beq_self_eq_true _
                  clear y0 hy hlen8 hcv3
                  go_wp2_with fail
                  refine (unpack_any y _ hyz (HW.out.below HBX.out)).mono ?_
                  rintro e w6 ⟨⟨v6, L6, b6, rfl, hs6, hg6⟩, hb6⟩
                  have HB6 := Lib.hid (HBX.out.trans (hb6.mono HBX.out.size))
                  have HR6 := Lib.hid (HR.out.trans (hb6.mono HR.out.size))
                  obtain ⟨p6, c6, rfl, hs6a⟩ := hs6
                  have HS6 : Hid (SlIs encN w6 (.slice p6 L6.length c6) L6) := ⟨p6, c6, rfl, hs6a⟩
                  have HG6 := Lib.hid hg6
                  clear hs6a hb6 hg6 y1
                  go_wp2_with fail
                  refine (runpack_any y _ hyz).mono ?_
                  rintro e w7 ⟨⟨v7, L7, b7, rfl, hs7, hg7⟩, hb7⟩
                  obtain ⟨eL, eb⟩ := Fa.Got.same (by rw [Fa.len_data]; omega) hg7 HG6.out
                  subst eb
                  rw [eL] at hs7
                  have HB7 := Lib.hid (HB6.out.trans (hb7.mono HB6.out.size))
                  have HR7 := Lib.hid (HR6.out.trans (hb7.mono HR6.out.size))
                  have HS6b := Lib.hid (HS6.out.below hb7)
                  obtain ⟨p7, c7, rfl, hs7a⟩ := hs7
                  have HS7 : Hid (SlIs encN w7 (.slice p7 L6.length c7) L6) := ⟨p7, c7, rfl, hs7a⟩
                  clear hs7a hb7 hg7 eL HS6
                  have hbb : (b7 != b7) = false := by simp
                  have HG7 := Lib.hid HG6.out
                  clear HG6
                  cases b7
                  · go_wp2_with fail
                    refine (sameTexts_any L6 L6 p6 p7 L6.length L6.length c6 c7 _ HS6b.out HS7.out).mono ?_
                    rintro e w8 ⟨⟨b, rfl, hbt⟩, hb8⟩
                    obtain rfl : b = true := hbt.2 rfl
                    have HR8 := Lib.hid (HR7.out.trans (hb8.mono HR7.out.size))
                    clear hb8 hbt
                    go_wp2_with fail
                    go_roundw
                    case rel => exact ⟨k + 1, by omega, by go_num, HR8.out⟩
                    case measure => simp [intOf]; omega
                  · go_wp2_with fail
                    refine (sameTexts_any L6 L6 p6 p7 L6.length L6.length c6 c7 _ HS6b.out HS7.out).mono ?_
                    rintro e w8 ⟨⟨b, rfl, hbt⟩, hb8⟩
                    obtain rfl : b = true := hbt.2 rfl
                    have HR8 := Lib.hid (HR7.out.trans (hb8.mono HR7.out.size))
                    have HB8 := Lib.hid (HB7.out.trans (hb8.mono HB7.out.size))
                    have HS8 := Lib.hid (HS6b.out.below hb8)
                    have hpk := HG7.out.1 rfl
                    have HPK := Lib.hid (pack_any L6 p6 L6.length c6 w8 HS8.out (by rw [hpk, Fa.len_data]; omega) (HW.out.below HB8.out))
                    have hpy : packS L6 = y := ByteArray.ext (Array.toList_inj.1 (by rw [← hpk]; simp [packS]))
                    rw [hpy] at HPK
                    clear hb8 hbt hpk hpy
                    go_wp2_with fail
                    refine HPK.out.mono ?_
                    rintro e w9 ⟨rfl, hb9⟩
                    have HR9 := Lib.hid (HR8.out.trans (hb9.mono HR8.out.size))
                    clear hb9
                    go_wp2_with fail
                    go_roundw
                    case rel => exact ⟨k + 1, by omega, by go_num, HR9.out⟩
                    case measure => simp [intOf]; omega
                · obtain rfl : k = 8 := by omega
                  go_wp2_with fail
                  refine (awake10_any _ (HW.out.below HBX.out)).mono ?_
                  rintro e w6 ⟨rfl, hb6⟩
                  have HB6 := Lib.hid (HBX.out.trans (hb6.mono HBX.out.size))
                  clear hb6
                  go_wp2_with fail
                  go_ret
                  exact ⟨rfl, HB6.out⟩
            · have h0i : ¬ (0 : Int) < (ps.size : Int) := by omega
              obtain ⟨t2, ht2⟩ : ∃ t : ByteArray, t = ⟨#[]⟩ := ⟨_, rfl⟩
              have ht2z : t2.size ≤ 8000 := by rw [ht2]; decide
              have hcv4 : (convert 29 9 (.slice (some ⟨w5.heap.size, 0, none⟩) ps.size cp)).run Tryd.prog wb = .ok (.string t2) wb := by
                rw [ht2, show ps.size = 0 by omega]
                exact run_convert_bytes_back (P := Tryd.prog) wb 29 9 5 ⟨w5.heap.size, 0, none⟩ cp [] Tryd.underlying29 Tryd.underlying5 Tryd.underlying9 (fun j hj => by simp at hj)
              obtain ⟨wc, rfl⟩ : ∃ x, x = wb := ⟨wb, rfl⟩
              have HBWC : Hid (Below w.heap.size w wc) := HB5.out.trans (HBB.out.mono HB5.out.size)
              clear ht2
              have HYC : Hid (CellsAt (wc.alloc (.cells #[.string s, .string t2, .string (ps ++ s), .string ⟨#[48, 49, 58, 97]⟩, .string ⟨#[45, 49, 58]⟩, .string ⟨#[49, 58]⟩, .string ⟨#[58]⟩, .string ⟨#[50, 58, 97]⟩] 9)) wc.heap.size 0 (encN.all (eight s t2 (ps ++ s)))) := cellsAt_alloc wc [.string s, .string t2, .string (ps ++ s), .string ⟨#[48, 49, 58, 97]⟩, .string ⟨#[45, 49, 58]⟩, .string ⟨#[49, 58]⟩, .string ⟨#[58]⟩, .string ⟨#[50, 58, 97]⟩] _
              have HBD : Hid (Below w.heap.size w (wc.alloc (.cells #[.string s, .string t2, .string (ps ++ s), .string ⟨#[48, 49, 58, 97]⟩, .string ⟨#[45, 49, 58]⟩, .string ⟨#[49, 58]⟩, .string ⟨#[58]⟩, .string ⟨#[50, 58, 97]⟩] 9))) := HBWC.out.trans ((below_box wc _).mono HBWC.out.size)
              have HYZ : Hid (∀ y ∈ eight s t2 (ps ++ s), y.size ≤ 1000000) := eight_size (by omega) (by omega) (by rw [ByteArray.size_append]; omega)
              have hcat : ¬ 9223372036854775807 < ps.size + s.size := by omega
              go_wp2_with fail
              obtain ⟨wd, hwd⟩ : ∃ x, x = wc.alloc (.cells #[.string s, .string t2, .string (ps ++ s), .string ⟨#[48, 49, 58, 97]⟩, .string ⟨#[45, 49, 58]⟩, .string ⟨#[49, 58]⟩, .string ⟨#[58]⟩, .string ⟨#[50, 58, 97]⟩] 9) := ⟨_, rfl⟩
              rw [← hwd] at HYC HBD
              go_loopw [11, 12, 15, 16, 17, 87] (fun _ _ _ _ _ i wr => ∃ k : Nat, k ≤ 8 ∧ i = .int .i64 k ∧ Hid (Below wd.heap.size wd wr)) (fun _ _ _ _ _ i _ => 8 - (intOf i).toNat)
              case atStart => exact ⟨0, by omega, rfl, by show Below _ _ _; rw [hwd]; exact Below.refl _ _⟩
              case round =>
                obtain ⟨k, hk, rfl, HR⟩ := hrel
                obtain ⟨wx, rfl⟩ : ∃ x, x = wr := ⟨wr, rfl⟩
                have HBX := Lib.hid (HBD.out.trans (HR.out.mono HBD.out.size))
                by_cases hk8 : k < 8
                · have hk8i : (k : Int) < 8 := by omega
                  have hlen8 : (eight s t2 (ps ++ s)).length = 8 := rfl
                  have y0 := (HYC.out.below HR.out).elem k (by rw [hlen8]; exact hk8) 0 (by decide) _ rfl
                  have hyz := HYZ.out ((eight s t2 (ps ++ s))[k]'(by rw [hlen8]; exact hk8)) (List.getElem_mem _)
                  obtain ⟨y, hy⟩ : ∃ y, y = (eight s t2 (ps ++ s))[k]'(by rw [hlen8]; exact hk8) := ⟨_, rfl⟩
                  rw [← hy] at y0 hyz
                  have y1 : wx.cell? ⟨wc.heap.size, k, none⟩ = some (.string y) := by simpa [encN] using y0
                  have hqy : (y.toList == y.toList) = true := beq_self_eq_true _
                  clear y0 hy hlen8 hcv3
                  go_wp2_with fail
                  refine (unpack_any y _ hyz (HW.out.below HBX.out)).mono ?_
                  rintro e w6 ⟨⟨v6, L6, b6, rfl, hs6, hg6⟩, hb6⟩
                  have HB6 := Lib.hid (HBX.out.trans (hb6.mono HBX.out.size))
                  have HR6 := Lib.hid (HR.out.trans (hb6.mono HR.out.size))
                  obtain ⟨p6, c6, rfl, hs6a⟩ := hs6
                  have HS6 : Hid (SlIs encN w6 (.slice p6 L6.length c6) L6) := ⟨p6, c6, rfl, hs6a⟩
                  have HG6 := Lib.hid hg6
                  clear hs6a hb6 hg6 y1
                  go_wp2_with fail
                  refine (runpack_any y _ hyz).mono ?_
                  rintro e w7 ⟨⟨v7, L7, b7, rfl, hs7, hg7⟩, hb7⟩
                  obtain ⟨eL, eb⟩ := Fa.Got.same (by rw [Fa.len_data]; omega) hg7 HG6.out
                  subst eb
                  rw [eL] at hs7
                  have HB7 := Lib.hid (HB6.out.trans (hb7.mono HB6.out.size))
                  have HR7 := Lib.hid (HR6.out.trans (hb7.mono HR6.out.size))
                  have HS6b := Lib.hid (HS6.out.below hb7)
                  obtain ⟨p7, c7, rfl, hs7a⟩ := hs7
                  have HS7 : Hid (SlIs encN w7 (.slice p7 L6.length c7) L6) := ⟨p7, c7, rfl, hs7a⟩
                  clear hs7a hb7 hg7 eL HS6
                  have hbb : (b7 != b7) = false := by simp
                  have HG7 := Lib.hid HG6.out
                  clear HG6
                  cases b7
                  · go_wp2_with fail
                    refine (sameTexts_any L6 L6 p6 p7 L6.length L6.length c6 c7 _ HS6b.out HS7.out).mono ?_
                    rintro e w8 ⟨⟨b, rfl, hbt⟩, hb8⟩
                    obtain rfl : b = true := hbt.2 rfl
                    have HR8 := Lib.hid (HR7.out.trans (hb8.mono HR7.out.size))
                    clear hb8 hbt
                    go_wp2_with fail
                    go_roundw
                    case rel => exact ⟨k + 1, by omega, by go_num, HR8.out⟩
                    case measure => simp [intOf]; omega
                  · go_wp2_with fail
                    refine (sameTexts_any L6 L6 p6 p7 L6.length L6.length c6 c7 _ HS6b.out HS7.out).mono ?_
                    rintro e w8 ⟨⟨b, rfl, hbt⟩, hb8⟩
                    obtain rfl : b = true := hbt.2 rfl
                    have HR8 := Lib.hid (HR7.out.trans (hb8.mono HR7.out.size))
                    have HB8 := Lib.hid (HB7.out.trans (hb8.mono HB7.out.size))
                    have HS8 := Lib.hid (HS6b.out.below hb8)
                    have hpk := HG7.out.1 rfl
                    have HPK := Lib.hid (pack_any L6 p6 L6.length c6 w8 HS8.out (by rw [hpk, Fa.len_data]; omega) (HW.out.below HB8.out))
                    have hpy : packS L6 = y := ByteArray.ext (Array.toList_inj.1 (by rw [← hpk]; simp [packS]))
                    rw [hpy] at HPK
                    clear hb8 hbt hpk hpy
                    go_wp2_with fail
                    refine HPK.out.mono ?_
                    rintro e w9 ⟨rfl, hb9⟩
                    have HR9 := Lib.hid (HR8.out.trans (hb9.mono HR8.out.size))
                    clear hb9
                    go_wp2_with fail
                    go_roundw
                    case rel => exact ⟨k + 1, by omega, by go_num, HR9.out⟩
                    case measure => simp [intOf]; omega
                · obtain rfl : k = 8 := by omega
                  go_wp2_with fail
                  refine (awake10_any _ (HW.out.below HBX.out)).mono ?_
                  rintro e w6 ⟨rfl, hb6⟩
                  have HB6 := Lib.hid (HBX.out.trans (hb6.mono HBX.out.size))
                  clear hb6
                  go_wp2_with fail
                  go_ret
                  exact ⟨rfl, HB6.out⟩
end Go.Proofs.YtlcldinmhcmdaaaDoor
