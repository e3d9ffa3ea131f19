/-
  CONTRACT: changed: a byte of a string is another one.
-/
import Derived.Test.YthikdkeanndidaaDoorFaA
import Derived.Test.YthikdkeanndidaaDoorMod
import Derived.Lib.ConvBytes
import Derived.Lib.AtoiErrMem
namespace Go.Proofs.YthikdkeanndidaaDoor
open Go Go.RowKit
set_option linter.unusedVariables false
set_option linter.unusedSimpArgs false
set_option maxRecDepth 100000

theorem bytes_frozen {w wb : World} {ps : ByteArray} {e : TypeId} {k : Nat} (h : wb.heap[w.heap.size]? = some (.cells (Lib.bytesCells w e ps) e ((Lib.bytesCells w e ps).size, (Lib.bytesCells w e ps).size + 1))) (hk : k < (Lib.bytesCells w e ps).size) : wb.frozen? ⟨w.heap.size, k, none⟩ = false := by
  simp [World.frozen?, h]
  omega

theorem bytes_room {w : World} {e : TypeId} {ps : ByteArray} : ps.size ≤ (Lib.bytesCells w e ps).size := by
  unfold Lib.bytesCells
  rw [Array.size_append, Array.size_map]
  exact Nat.le_add_right ps.data.size _
theorem set_text {b k cv cp : Nat} {wb : World} {ps : ByteArray} (hc : ∀ j, j < ps.size → wb.cell? ⟨b, j, none⟩ = some (.int .u8 (ps.data.toList.getD j 0).toNat)) (hk : k < ps.size) (hcv : cv < 256) :
    (convert 74 9 (.slice (some ⟨b, 0, none⟩) ps.size cp)).run Tryd.prog (wb.setCell ⟨b, k, none⟩ (.int .u8 (cv : Int))) = .ok (.string ⟨(ps.data.toList.set k (UInt8.ofNat cv)).toArray⟩) (wb.setCell ⟨b, k, none⟩ (.int .u8 (cv : Int))) := by
  have hlen : (ps.data.toList.set k (UInt8.ofNat cv)).length = ps.size := by rw [List.length_set, Fa.len_data]
  have h := run_convert_bytes_back (P := Tryd.prog) (wb.setCell ⟨b, k, none⟩ (.int .u8 (cv : Int))) 74 9 5 ⟨b, 0, none⟩ cp (ps.data.toList.set k (UInt8.ofNat cv)) Tryd.underlying74 Tryd.underlying5 Tryd.underlying9 (by
    intro j hj
    rw [hlen] at hj
    have h0 := hc j hj
    rw [add_lit, Nat.zero_add]
    by_cases e : j = k
    · subst e
      rw [World.cell?_setCell_same _ _ _ h0, List.getElem_set_self]
      have : (UInt8.ofNat cv).toNat = cv := by simp; omega
      rw [this]
    · rw [World.cell?_setCell_other _ _ _ _ (by intro h; injection h with _ h _; exact e h.symm), h0, List.getElem_set_ne (fun h => e h.symm)]
      rw [List.getD_eq_getElem?_getD, List.getElem?_eq_getElem (by rw [Fa.len_data]; exact hj)]
      rfl)
  rwa [hlen] at h


def seven : List Nat := [48, 49, 58, 45, 40, 97, 60]
theorem seven_lt (m : Nat) (h : m < 7) : ∃ cv : Nat, cv < 256 ∧ seven[m]? = some cv := by
  rcases m with _ | _ | _ | _ | _ | _ | _ | m
  · exact ⟨48, by decide, rfl⟩
  · exact ⟨49, by decide, rfl⟩
  · exact ⟨58, by decide, rfl⟩
  · exact ⟨45, by decide, rfl⟩
  · exact ⟨40, by decide, rfl⟩
  · exact ⟨97, by decide, rfl⟩
  · exact ⟨60, by decide, rfl⟩
  · omega
theorem seven_cell (w : World) (m cv : Nat) (h : seven[m]? = some cv) : (w.alloc (.cells #[.int .u8 48, .int .u8 49, .int .u8 58, .int .u8 45, .int .u8 40, .int .u8 97, .int .u8 60] 5)).cell? ⟨w.heap.size, m, none⟩ = some (.int .u8 (cv : Int)) := by
  have hc := cellsAt_alloc w [.int .u8 48, .int .u8 49, .int .u8 58, .int .u8 45, .int .u8 40, .int .u8 97, .int .u8 60] 5 m
  rw [Nat.zero_add] at hc
  apply hc
  rcases m with _ | _ | _ | _ | _ | _ | _ | m
  all_goals first | (injection h with h; subst h; rfl) | (exact absurd h (by simp [seven]))

set_option maxHeartbeats 4000000 in
/-- changed -/
theorem changed_any (s : ByteArray) (at_ : Int) (hs : s.size ≤ 1000000000) (a1 : -9223372036854775808 ≤ at_) (a2 : at_ ≤ 9223372036854775807) :
    ∃ t : ByteArray, t.size = s.size ∧ ∀ w : World, Calls Tryd.prog 13 #[.string s, .int .i64 at_] w fun e w' => e = .returned (.string t) ∧ Below w.heap.size w w' := by
  by_cases h0 : 0 < s.size
  · have h0i : (0 : Int) < (s.size : Int) := by omega
    obtain ⟨k, hmod, k0, k1⟩ := mod_any at_ (s.size : Int) (by omega) (by omega) a1 a2
    obtain ⟨kn, rfl⟩ : ∃ m : Nat, k = (m : Int) := ⟨k.toNat, by omega⟩
    obtain ⟨q, hq⟩ : ∃ q : Int, at_.tdiv 11 = q := ⟨_, rfl⟩
    have hq1 : -9223372036854775808 ≤ q ∧ q ≤ 9223372036854775807 := by
      have hb : -9223372036854775808 ≤ at_.tdiv 11 ∧ at_.tdiv 11 ≤ 9223372036854775807 := by
        rcases Int.le_total 0 at_ with h | h
        · rw [Int.tdiv_eq_ediv_of_nonneg h]; omega
        · have e : at_.tdiv 11 = -((-at_).tdiv 11) := by rw [Int.neg_tdiv]; omega
          rw [e, Int.tdiv_eq_ediv_of_nonneg (by omega)]; omega
      rw [← hq]; exact hb
    obtain ⟨k', hmod', k0', k1'⟩ := mod_any q 7 (by omega) (by omega) hq1.1 hq1.2
    obtain ⟨km, rfl⟩ : ∃ m : Nat, k' = (m : Int) := ⟨k'.toNat, by omega⟩
    obtain ⟨cv, hcv2, hcv⟩ := seven_lt km (by omega)
    have hkn : kn < s.size := by omega
    have hkm : (km : Int) < 7 := by omega
    refine ⟨⟨(s.data.toList.set kn (UInt8.ofNat cv)).toArray⟩, by rw [← Fa.len_data]; simp, fun w => ?_⟩
    obtain ⟨t2, ht2⟩ : ∃ t : ByteArray, t = ⟨(s.data.toList.set kn (UInt8.ofNat cv)).toArray⟩ := ⟨_, rfl⟩
    rw [← ht2]
    have hcv3 := Lib.run_convert_string_bytes (P := Tryd.prog) w 9 74 5 s Tryd.underlying9 Tryd.underlying74 Tryd.underlying5
    have HBB := Lib.hid (Lib.bytesWorld_below w 5 s)
    have HBC := Lib.hid (fun j hj => Lib.bytesWorld_cell w 5 s j hj)
    have HBN := Lib.hid (Lib.bytesWorld_at_new w 5 s)
    obtain ⟨wb, hwb⟩ : ∃ x, x = Lib.bytesWorld w 5 s := ⟨_, rfl⟩
    rw [← hwb] at hcv3 HBB HBC HBN
    obtain ⟨cp, hcp⟩ : ∃ x, x = grownCap w s.size 0 5 := ⟨_, rfl⟩
    rw [← hcp] at hcv3
    clear hwb hcp
    have hsb : w.heap.size < wb.heap.size := by
      have := HBN.out
      by_cases h : w.heap.size < wb.heap.size
      · exact h
      · rw [Array.getElem?_eq_none (by omega)] at this; cases this
    have hx := seven_cell wb km cv hcv
    have hbx := below_box wb (.cells #[.int .u8 48, .int .u8 49, .int .u8 58, .int .u8 45, .int .u8 40, .int .u8 97, .int .u8 60] 5)
    obtain ⟨w7, hw7⟩ : ∃ x, wb.alloc (.cells #[.int .u8 48, .int .u8 49, .int .u8 58, .int .u8 45, .int .u8 40, .int .u8 97, .int .u8 60] 5) = x := ⟨_, rfl⟩
    rw [hw7] at hx hbx
    have HB7 : Hid (Below w.heap.size w w7) := HBB.out.trans (hbx.mono HBB.out.size)
    have HC7 : Hid (∀ j, j < s.size → w7.cell? ⟨w.heap.size, j, none⟩ = some (.int .u8 (s.data.toList.getD j 0).toNat)) := fun j hj => by
      rw [hbx.cell (p := ⟨w.heap.size, j, none⟩) hsb]; exact HBC.out j hj
    have hc0 : w7.cell? ⟨w.heap.size, kn, none⟩ = some (.int .u8 (s.data.toList.getD kn 0).toNat) := HC7.out kn hkn
    have hfz : w7.frozen? ⟨w.heap.size, kn, none⟩ = false := by
      rw [hbx.frozen (p := ⟨w.heap.size, kn, none⟩) hsb]
      exact bytes_frozen HBN.out (Nat.lt_of_lt_of_le hkn bytes_room)
    have hcv4 := set_text (cp := cp) HC7.out hkn hcv2
    rw [← ht2] at hcv4
    obtain ⟨wc, hset⟩ : ∃ x, w7.setCell ⟨w.heap.size, kn, none⟩ (.int .u8 (cv : Int)) = x := ⟨_, rfl⟩
    have HBWC : Hid (Below w.heap.size w wc) := by
      show Below _ _ _
      rw [← hset]
      exact HB7.out.setCell (p := ⟨w.heap.size, kn, none⟩) (Nat.le_refl _) _
    rw [hset] at hcv4
    have HMOD := Lib.hid hmod
    have HMOD' := Lib.hid hmod'
    clear ht2 hmod hmod' hcv hbx
    go_enter Tryd.func13, Tryd.ntmps13
    go_wp2_with fail
    refine (HMOD.out _).mono ?_
    rintro e w' ⟨rfl, rfl⟩
    go_wp2_with fail
    refine (HMOD'.out _).mono ?_
    rintro e w' ⟨rfl, rfl⟩
    go_wp2_with fail
    go_ret
    exact ⟨rfl, HBWC.out⟩
  · have h0i : ¬ (0 : Int) < (s.size : Int) := by omega
    refine ⟨⟨#[]⟩, by show 0 = s.size; omega, fun w => ?_⟩
    obtain ⟨t2, ht2⟩ : ∃ t : ByteArray, t = ⟨#[]⟩ := ⟨_, rfl⟩
    rw [← ht2]
    have hcv3 := Lib.run_convert_string_bytes (P := Tryd.prog) w 9 74 5 s Tryd.underlying9 Tryd.underlying74 Tryd.underlying5
    have HBB := Lib.hid (Lib.bytesWorld_below w 5 s)
    obtain ⟨wb, hwb⟩ : ∃ x, x = Lib.bytesWorld w 5 s := ⟨_, rfl⟩
    rw [← hwb] at hcv3 HBB
    obtain ⟨cp, hcp⟩ : ∃ x, x = grownCap w s.size 0 5 := ⟨_, rfl⟩
    rw [← hcp] at hcv3
    clear hwb hcp
    have hcv4 : (convert 74 9 (.slice (some ⟨w.heap.size, 0, none⟩) s.size cp)).run Tryd.prog wb = .ok (.string t2) wb := by
      rw [ht2, show s.size = 0 by omega]
      exact run_convert_bytes_back (P := Tryd.prog) wb 74 9 5 ⟨w.heap.size, 0, none⟩ cp [] Tryd.underlying74 Tryd.underlying5 Tryd.underlying9 (fun j hj => by simp at hj)
    clear ht2
    go_enter Tryd.func13, Tryd.ntmps13
    go_wp2_with fail
    go_ret
    exact ⟨rfl, HBB.out⟩
end Go.Proofs.YthikdkeanndidaaDoor
