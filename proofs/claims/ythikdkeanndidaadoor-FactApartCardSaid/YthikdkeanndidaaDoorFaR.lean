/-
  CONTRACT: the reference's Pack.
-/
import Derived.Test.YthikdkeanndidaaDoorFaT0
import Derived.Lib.AppendStr
import Derived.Laws.IdiomStrings
namespace Go.Proofs.YthikdkeanndidaaDoor
open Go Go.RowKit
set_option linter.unusedVariables false
set_option linter.unusedSimpArgs false
set_option maxRecDepth 100000

theorem info_u8 : (Tryd.prog.info? 5).map (fun i => (i.zero, i.size, i.bytes)) = some (some (.int .u8 0), 1, 1) := by kernel_rfl
/-- bytes in a row -/
def enc8 : Enc UInt8 := ⟨fun c => [.int .u8 (c.toNat : Int)], 1, fun _ => rfl, fun x v hv => by simp at hv; subst hv; rfl, by decide⟩
theorem enc8_all (l : List UInt8) : enc8.all l = Lib.byteCells l := by
  induction l with
  | nil => rfl
  | cons c l ih => rw [Enc.all_cons, ih]; rfl
/-- bytes of the call's own -/
abbrev Own8 (w : World) (base : Nat) (v : Value) (l : List UInt8) : Prop := OwnL enc8 5 w base v l
theorem own8_row {w : World} {base : Nat} {v : Value} {l : List UInt8} (h : Own8 w base v l) : w.ownsRow base 5 1 v l.length (Lib.byteCells l) := by
  have := h
  unfold Own8 OwnL at this
  rwa [enc8_all] at this
theorem row_own8 {w : World} {base n : Nat} {v : Value} {l : List UInt8} (hn : n = l.length) {cs : List Value} (hc : cs = Lib.byteCells l) (h : w.ownsRow base 5 1 v n cs) : Own8 w base v l := by
  subst hn
  subst hc
  unfold Own8 OwnL
  rwa [enc8_all]
/-- string(b) of bytes of the call's own -/
theorem own8_text {w : World} {base : Nat} {v : Value} {l : List UInt8} (h : Own8 w base v l) : (convert 74 9 v).run Tryd.prog w = .ok (.string ⟨l.toArray⟩) w := by
  obtain ⟨p, cap, rfl, _, _, h4⟩ := h.sl
  by_cases h0 : 0 < l.length
  · obtain ⟨b, off, rfl, hc⟩ := h4 h0
    refine run_convert_bytes_back (P := Tryd.prog) w 74 9 5 ⟨b, off, none⟩ cap l Tryd.underlying74 Tryd.underlying5 Tryd.underlying9 ?_
    intro j hj
    have := hc.elem j hj 0 (by decide) _ rfl
    rw [add_lit]
    simpa [enc8] using this
  · have e : l = [] := List.eq_nil_of_length_eq_zero (by omega)
    subst e
    rw [show ([] : List UInt8).length = 0 from rfl, run_convert_bytes_string w 74 9 5 p 0 cap Tryd.underlying74 Tryd.underlying5 Tryd.underlying9]
    cases p <;> rfl

theorem pack_take {L : List ByteArray} {j : Nat} (hj : j < L.length) : Fa.packL (L.take (j + 1)) = Fa.packL (L.take j) ++ (Lib.itoa ((L[j]'hj).size : Int) ++ 58 :: (L[j]'hj).data.toList) := by
  rw [List.take_succ_eq_append_getElem hj, Fa.packL_snoc]
theorem pack_take_le (L : List ByteArray) (j : Nat) : (Fa.packL (L.take j)).length ≤ (Fa.packL L).length := by
  conv => rhs; rw [← List.take_append_drop j L]
  rw [Fa.packL_append, List.length_append]
  omega

/-- the strings' texts, one after the other -/
def packS (L : List ByteArray) : ByteArray := ⟨(Fa.packL L).toArray⟩

set_option maxHeartbeats 2000000 in
theorem rpack_any (L : List ByteArray) (p : Option Addr) (n c : Nat) (w : World) (h : SlIs encN w (.slice p n c) L) (hz : (Fa.packL L).length ≤ 1000000000) :
    Calls Tryd.prog 39 #[.slice p n c] w fun e w' => e = .returned (.string (packS L)) ∧ Below w.heap.size w w' := by
  obtain ⟨e1, hm1, g1⟩ := h.strAt
  subst e1
  unfold maxLen at hm1
  have G1 := Lib.hid g1
  have HZ := Lib.hid hz
  obtain ⟨ps, hps⟩ : ∃ s, s = packS L := ⟨_, rfl⟩
  rw [← hps]
  have HPS := Lib.hid hps
  clear h g1 hz hps
  go_enter Tryd.func39, Tryd.ntmps39
  go_wp2_with fail
  go_loopw [3, 4] (fun b i wr => ∃ j : Nat, j ≤ L.length ∧ i = .int .i64 j ∧ Hid (Own8 wr w.heap.size b (Fa.packL (L.take j))) ∧ Hid (Below w.heap.size w wr)) (fun _ i _ => L.length - (intOf i).toNat)
  case atStart => exact ⟨0, Nat.zero_le _, rfl, OwnL.isNil _ _ _ _, Below.refl _ _⟩
  case round =>
    obtain ⟨j, hj, rfl, HO, HB⟩ := hrel
    obtain ⟨wx, rfl⟩ : ∃ x, x = wr := ⟨wr, rfl⟩
    by_cases hlt : j < L.length
    · have hlti : (j : Int) < (L.length : Int) := by omega
      obtain ⟨b1, o1, rfl, a1⟩ := G1.out j hlt
      have hst := pack_take hlt
      have hle := pack_take_le L (j + 1)
      obtain ⟨x, hx⟩ : ∃ x, x = L[j]'hlt := ⟨_, rfl⟩
      rw [← hx] at a1 hst
      have X0 : Hid (wx.cell? ⟨b1, o1 + j, none⟩ = some (.string x)) := by
        show _ = _
        rw [HB.out.cell (World.block_lt_of_cell? w _ a1)]; exact a1
      have hzz : (Fa.packL L).length ≤ 1000000000 := HZ.out
      have hil := Fa.itoa_len (x.size : Int)
      rw [hst] at hle
      simp only [List.length_append, List.length_cons, Fa.len_data] at hle
      have hxs : x.size ≤ 1000000000 := by omega
      have HD := Lib.hid (fun w => rdig_any (x.size : Int) (by omega) (by omega) w)
      obtain ⟨sd, hsd⟩ : ∃ s, s = itS (x.size : Int) := ⟨_, rfl⟩
      have hz1 : sd.size ≤ 20 := by rw [hsd, itS_size]; exact (hil (by omega) (by omega)).1
      rw [← hsd] at HD
      have hT : Fa.packL (L.take (j + 1)) = Fa.packL (L.take j) ++ ((sd ++ ⟨#[58]⟩) ++ x).data.toList := by
        rw [hst, hsd]
        simp [itS]
      have hTl : (Fa.packL (L.take j)).length + ((sd ++ ⟨#[58]⟩) ++ x).size ≤ 2000000000 := by
        have e1 : ((sd ++ ⟨#[58]⟩) ++ x).size = sd.size + 1 + x.size := by rw [ByteArray.size_append, ByteArray.size_append]; rfl
        rw [e1]
        omega
      have q1 : ¬ 9223372036854775807 < sd.size + 1 := by omega
      have q2 : ¬ 9223372036854775807 < sd.size + 1 + x.size := by omega
      have HT := Lib.hid hT
      have HTL := Lib.hid hTl
      obtain ⟨i0, hi, hz0, hz1', hz2⟩ := info_parts info_u8
      have HI := Lib.hid hi
      clear a1 hle hst hzz hil hx hsd hT hTl hi G1
      go_wp2_with fail
      apply wp_region_relT LeW.refl LeW.trans 13
      case hm => kernel_rfl
      case hB => kernel_rfl
      simp only [List.take_succ_cons, List.take_zero, List.drop_succ_cons, List.drop_zero]
      apply wpRel_cons (t := tyIs _ _)
      case h1 => (intro w' hl hd2; clear hl hd2; unfold relAt; go_simp; exact rel_is LeW.refl)
      intro _
      rw [tyIs_f]
      go_simp
      apply wpRel_cons (t := tyIs _ _)
      case h1 => (intro w' hl hd2; clear hl hd2; unfold relAt; go_simp; exact rel_is LeW.refl)
      intro _
      rw [tyIs_f]
      go_simp
      apply wpRel_cons (t := tyIs _ _)
      case h1 => (intro w' hl hd2; clear hl hd2; unfold relAt; go_simp; exact rel_is LeW.refl)
      intro _
      rw [tyIs_f]
      go_simp
      apply wpRel_cons (t := tyIs _ _)
      case h1 => (intro w' hl hd2; clear hl hd2; unfold relAt; go_simp; exact rel_is LeW.refl)
      intro _
      rw [tyIs_f]
      go_simp
      apply wpRel_cons (t := tyIs _ _)
      case h1 => (intro w' hl hd2; have x0 := (hl.cell (World.block_lt_of_cell? _ _ X0.out)).trans X0.out; clear hl hd2; unfold relAt; go_simp; exact rel_is LeW.refl)
      intro _
      rw [tyIs_f]
      go_simp
      apply wpRel_cons (t := tyIs _ _)
      case h1 => (intro w' hl hd2; clear hl hd2; unfold relAt; go_simp; exact rel_is LeW.refl)
      intro _
      rw [tyIs_f]
      go_simp
      apply wpRel_cons (t := tyIs _ (.string sd))
      case h1 => (intro w' hl hd2; clear hl hd2; unfold relAt; go_simp; refine ⟨LeW.refl _, ?_⟩; refine (HD.out _).mono ?_; rintro e w'' ⟨rfl, hb''⟩; exact ⟨(), rfl, hb'', trivial⟩)
      intro _
      rw [tyIs_f]
      go_simp
      apply wpRel_cons (t := tyIs _ _)
      case h1 => (intro w' hl hd2; clear hl hd2; unfold relAt; go_simp; exact rel_is LeW.refl)
      intro _
      rw [tyIs_f]
      go_simp
      apply wpRel_cons (t := tyIs _ _)
      case h1 => (intro w' hl hd2; clear hl hd2; unfold relAt; go_simp; exact rel_is LeW.refl)
      intro _
      rw [tyIs_f]
      go_simp
      apply wpRel_cons (t := tyIs _ _)
      case h1 => (intro w' hl hd2; clear hl hd2; unfold relAt; go_simp; exact rel_is LeW.refl)
      intro _
      rw [tyIs_f]
      go_simp
      apply wpRel_cons (t := tyIs _ _)
      case h1 => (intro w' hl hd2; clear hl hd2; unfold relAt; go_simp; exact rel_is LeW.refl)
      intro _
      rw [tyIs_f]
      go_simp
      apply wpRel_cons (t := tyIs _ _)
      case h1 => (intro w' hl hd2; have x0 := (hl.cell (World.block_lt_of_cell? _ _ X0.out)).trans X0.out; clear hl hd2; unfold relAt; go_simp; exact rel_is LeW.refl)
      intro _
      rw [tyIs_f]
      go_simp
      apply wpRel_cons (t := tyIs _ _)
      case h1 => (intro w' hl hd2; clear hl hd2; unfold relAt; go_simp; exact rel_is LeW.refl)
      intro _
      rw [tyIs_f]
      go_simp
      apply wpRel_nil (Ts := [])
      intro w4 hl hF
      have hl1 : Below wx.heap.size wx w4 := bnext ((Below.refl _ wx).drew) hl
      have HB4 := Lib.hid (HB.out.trans (hl1.mono HB.out.size))
      have HO4 := Lib.hid (HO.out.below hl1)
      clear hl hl1 hF HB HO
      go_simp
      refine Lib.wpList_append_own_string _ rfl _ _ 74 9 rfl w.heap.size 5 i0 Tryd.underlying74 Tryd.underlying9 HI.out hz0 hz1' hz2 _ _ _ rfl (own8_row HO4.out) ((sd ++ ⟨#[58]⟩) ++ x) rfl ?_ ?_ HB4.out.size ?_
      · unfold maxLen; have := HTL.out; omega
      · have := HTL.out; omega
      intro v' w5 hown' hgrow _
      have HO5 : Hid (Own8 w5 w.heap.size v' (Fa.packL (L.take (j + 1)))) := by
        refine row_own8 ?_ ?_ hown'
        · rw [HT.out, List.length_append, Fa.len_data]
        · rw [HT.out, Lib.byteCells_append]; rfl
      have HB5 := Lib.hid (HB4.out.trans ((OwnL.grown_below HO4.out hgrow HB4.out.size)))
      clear hown' hgrow HO4 HB4 HT HTL HI
      go_wp2_with fail
      go_roundw
      case rel => exact ⟨j + 1, by omega, by go_num, HO5.out, HB5.out⟩
      case measure => simp [intOf]; omega
    · obtain rfl : j = L.length := by omega
      have hfin : Fa.packL (L.take L.length) = Fa.packL L := by rw [List.take_length]
      have HO2 : Hid (Own8 wx w.heap.size u3 (Fa.packL L)) := by have := HO.out; rw [hfin] at this; exact this
      have hcv := own8_text HO2.out
      have HCV : Hid ((convert 74 9 u3).run Tryd.prog wx = .ok (.string ps) wx) := by show _ = _; rw [HPS.out]; exact hcv
      have hcv2 := HCV.out
      clear hcv HCV hfin HO
      go_wp2_with fail
      go_ret
      exact ⟨rfl, HB.out⟩
end Go.Proofs.YthikdkeanndidaaDoor
