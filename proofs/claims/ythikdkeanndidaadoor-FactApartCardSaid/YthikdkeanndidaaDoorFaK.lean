/-
  CONTRACT: fact.Pack.
-/
import Derived.Test.YthikdkeanndidaaDoorFaV
import Derived.Test.YthikdkeanndidaaDoorFaB
namespace Go.Proofs.YthikdkeanndidaaDoor
open Go Go.RowKit
set_option linter.unusedVariables false
set_option linter.unusedSimpArgs false
set_option maxRecDepth 100000

theorem cells_str (s : ByteArray) : Lib.strCells s = Lib.byteCells s.data.toList := rfl

theorem builder_old {B b : Nat} {l : List UInt8} {w w' : World} (h : Lib.IsBuilder 98 5 B b (Lib.byteCells l) w) (hb : Below w.heap.size w w') : Lib.IsBuilder 98 5 B b (Lib.byteCells l) w' := by
  have key : ∀ p, Lib.BuilderAt 98 5 B b p (Lib.byteCells l) w → Lib.BuilderAt 98 5 B b p (Lib.byteCells l) w' := by
    intro p h
    have hlt := h.lt
    obtain ⟨hB, v, hbk, hown, hne⟩ := h
    refine ⟨hB, v, by rw [hb.block b hlt]; exact hbk, ?_, hne⟩
    have ho : Own8 w B v l := row_own8 (Lib.byteCells_length l) rfl hown
    have h2 := own8_row (OwnL.below ho hb)
    rwa [← Lib.byteCells_length l] at h2
  exact h.imp (key _) (key _)

set_option maxHeartbeats 2000000 in
theorem pack_any (L : List ByteArray) (p : Option Addr) (n c : Nat) (w : World) (h : SlIs encN w (.slice p n c) L) (hz : (Fa.packL L).length ≤ 1000000000) (hw : LaidW w) :
    Calls Tryd.prog 21 #[.slice p n c] w fun e w' => e = .returned (.string (packS L)) ∧ Below w.heap.size w w' := by
  obtain ⟨e1, hm1, g1⟩ := h.strAt
  subst e1
  unfold maxLen at hm1
  have G1 := Lib.hid g1
  have HZ := Lib.hid hz
  obtain ⟨ps, hps⟩ : ∃ s, s = packS L := ⟨_, rfl⟩
  rw [← hps]
  have HPS := Lib.hid hps
  have HB0 := Lib.hid (Lib.fresh_isBuilder 98 5 w)
  have HW := Lib.hid hw
  clear h g1 hz hps hw
  go_enter Tryd.func21, Tryd.ntmps21
  go_wp2_with fail
  go_loopw [5, 8] (fun _ i wr => ∃ j : Nat, j ≤ L.length ∧ i = .int .i64 j ∧ Hid (Lib.IsBuilder 98 5 w.heap.size w.heap.size (Lib.byteCells (Fa.packL (L.take j))) wr) ∧ Hid (Below w.heap.size w wr)) (fun _ i _ => L.length - (intOf i).toNat)
  case atStart => exact ⟨0, Nat.zero_le _, rfl, HB0.out, below_box _ _⟩
  case round =>
    obtain ⟨j, hj, rfl, HO, HB⟩ := hrel
    obtain ⟨wx, rfl⟩ : ∃ x, x = wr := ⟨wr, rfl⟩
    by_cases hlt : j < L.length
    · have hlti : (j : Int) < (L.length : Int) := by omega
      obtain ⟨b1, o1, rfl, a1⟩ := G1.out j hlt
      have hst := pack_take hlt
      have hle := pack_take_le L (j + 1)
      obtain ⟨x, hx⟩ : ∃ x, x = L[j]'hlt := ⟨_, rfl⟩
      rw [← hx] at a1 hst
      have x0 : wx.cell? ⟨b1, o1 + j, none⟩ = some (.string x) := by
        rw [HB.out.cell (World.block_lt_of_cell? w _ a1)]; exact a1
      have hzz : (Fa.packL L).length ≤ 1000000000 := HZ.out
      have hil := Fa.itoa_len (x.size : Int)
      rw [hst] at hle
      simp only [List.length_append, List.length_cons, Fa.len_data] at hle
      have hxs : x.size ≤ 1000000000 := by omega
      have HD := Lib.hid (fun w hw => itoa_any (x.size : Int) (by omega) (by omega) w hw)
      obtain ⟨sd, hsd⟩ : ∃ s, s = itS (x.size : Int) := ⟨_, rfl⟩
      have hz1 : sd.size ≤ 20 := by rw [hsd, itS_size]; exact (hil (by omega) (by omega)).1
      rw [← hsd] at HD
      have hT : Lib.byteCells (Fa.packL (L.take (j + 1))) = Lib.byteCells (Fa.packL (L.take j)) ++ Lib.strCells sd ++ [.int .u8 58] ++ Lib.strCells x := by
        rw [hst, hsd, cells_str, cells_str, itS_data, Lib.byteCells_append, Lib.byteCells_append]
        show _ = _ ++ _ ++ Lib.byteCells [58] ++ _
        rw [List.append_assoc, List.append_assoc, ← Lib.byteCells_append [58]]
        rfl
      have HT := Lib.hid hT
      have HL1 : Hid ((Lib.byteCells (Fa.packL (L.take j))).length ≤ 1000000000) := by show _ ≤ _; rw [Lib.byteCells_length]; omega
      clear a1 hle hst hzz hil hx hsd hT G1
      go_wp2_with fail
      refine (HD.out _ (HW.out.below HB.out)).mono ?_
      rintro e w1 ⟨rfl, hb1⟩
      have HB1 := Lib.hid (HB.out.trans (hb1.mono HB.out.size))
      have HO1 : Hid (Lib.IsBuilder 98 5 w.heap.size w.heap.size (Lib.byteCells (Fa.packL (L.take j))) w1) := builder_old HO.out hb1
      clear hb1 HB HO HD x0
      go_wp2_with fail
      refine (writeString_any w.heap.size w.heap.size _ sd _ HO1.out (by have := HL1.out; omega) HB1.out.size).mono ?_
      rintro e w2 ⟨rfl, hB2, hb2⟩
      have HO2 := Lib.hid hB2
      have HB2 := Lib.hid (HB1.out.trans hb2)
      clear hB2 hb2 HO1 HB1
      go_wp2_with fail
      refine (writeByte_any w.heap.size w.heap.size _ 58 _ (.inr HO2.out) (by have := HL1.out; rw [List.length_append, Lib.strCells_length]; omega) HB2.out.size).mono ?_
      rintro e w3 ⟨rfl, hB3, hb3⟩
      have HO3 := Lib.hid hB3
      have HB3 := Lib.hid (HB2.out.trans hb3)
      clear hB3 hb3 HO2 HB2
      go_wp2_with fail
      refine (writeString_any w.heap.size w.heap.size _ x _ (.inr HO3.out) (by have := HL1.out; rw [List.length_append, List.length_append, Lib.strCells_length, List.length_singleton]; omega) HB3.out.size).mono ?_
      rintro e w4 ⟨rfl, hB4, hb4⟩
      have HO4 : Hid (Lib.IsBuilder 98 5 w.heap.size w.heap.size (Lib.byteCells (Fa.packL (L.take (j + 1)))) w4) := by
        show Lib.IsBuilder _ _ _ _ _ _
        rw [HT.out]
        exact .inr hB4
      have HB4 := Lib.hid (HB3.out.trans hb4)
      clear hB4 hb4 HO3 HB3 HT
      go_wp2_with fail
      go_roundw
      case rel => exact ⟨j + 1, by omega, by go_num, HO4.out, HB4.out⟩
      case measure => simp [intOf]; omega
    · obtain rfl : j = L.length := by omega
      have HO2 : Hid (Lib.IsBuilder 98 5 w.heap.size w.heap.size (Lib.byteCells (Fa.packL L)) wx) := by have := HO.out; rwa [List.take_length] at this
      clear HO
      go_wp2_with fail
      refine (Tryd.Builder_String_any w.heap.size w.heap.size (Fa.packL L) _ HO2.out HB.out.size).mono ?_
      rintro e w5 ⟨rfl, hb5⟩
      have HB5 := Lib.hid (HB.out.trans hb5)
      clear hb5
      go_wp2_with fail
      go_ret
      exact ⟨by rw [HPS.out]; rfl, HB5.out⟩
end Go.Proofs.YthikdkeanndidaaDoor
