/-
  CONTRACT: strings.IndexAny of the marks in any text.
-/
import Derived.Test.YtbnnokibjccdaaaTpI
import Derived.Lib.OthersKept
namespace Go.Proofs.Ytbnnokibjccdaaa
open Go Go.RowKit Go.Lib
set_option linter.unusedVariables false
set_option linter.unusedSimpArgs false
set_option maxRecDepth 100000

set_option maxHeartbeats 4000000 in
theorem indexAny_short (s : ByteArray) (w : World) (h8 : s.size ≤ 8) : Calls Try.prog 76 #[.string s, .string ⟨#[60, 62, 44]⟩] w fun e w' => e = .returned (.int .i64 (Lib.indexAny s.data.toList marks)) ∧ Below w.heap.size w w' := by
  obtain ⟨m, hmm⟩ : ∃ m, m = (⟨#[60, 62, 44]⟩ : ByteArray) := ⟨_, rfl⟩
  have hsz : m.size = 3 := by rw [hmm]; rfl
  have hemp : m.toList.isEmpty = false := by rw [Lib.toList_data, hmm]; rfl
  have hemp2 : (m.toList == []) = false := by rw [Lib.toList_data, hmm]; rfl
  have HIR := Lib.hid (fun (r : Int) w (h : 128 ≤ r) => indexRune_high r w h)
  have HIA := Lib.hid (fun (r : Int) w (h0 : 0 ≤ r) (h1 : r < 128) => Try.strings_IndexRune_ascii m r w h0 h1)
  have HMK := Lib.hid (show m.data.toList = marks by rw [hmm]; rfl)
  rw [← hmm]
  rw [← hmm] at HIR
  clear hmm
  have h8z : decide ((8 : Int) < (s.size : Int)) = false := decide_eq_false (by omega)
  have h8n : ¬ (8 : Int) < (s.size : Int) := by omega
  obtain ⟨B, hB⟩ : ∃ B, w.heap.size = B := ⟨_, rfl⟩
  go_enter Try.func76, Try.ntmps76
  go_wp2
  have HI0 : Hid ((w.iter s 0).heap[B]? = some (.stringIter s 0)) := by rw [← hB]; exact heap_alloc_new w _
  have HB0 : Hid (Below B w (w.iter s 0)) := by rw [← hB]; exact below_box w _
  generalize w.iter s 0 = w1 at *
  go_loopw [9, 10] (fun _ _ wr => ∃ i : Nat, Hid (wr.heap[B]? = some (.stringIter s i)) ∧ Hid (Below B w wr) ∧ Hid (Lib.NoAny s.data.toList marks i)) (fun _ _ wr => s.size - wr.iterPos B)
  case atStart => exact ⟨0, HI0, HB0, Lib.NoAny.zero _ _⟩
  case round =>
    obtain ⟨i, HI, HB, HN⟩ := hrel
    obtain ⟨wx, rfl⟩ : ∃ x, x = wr := ⟨wr, rfl⟩
    have hpos : wx.iterPos B = i := by unfold World.iterPos; rw [HI.out]
    have HP := Lib.hid hpos
    clear hpos
    by_cases hi : i < s.size
    · obtain ⟨x, hx⟩ : ∃ x : UInt8, s[i]'hi = x := ⟨_, rfl⟩
      have hxl : s.data.toList[i]? = some x := by rw [← hx]; exact Lib.data_getElem? s i hi
      by_cases hx128 : x.toNat < 128
      · have hnx := fun ty => run_next_ascii_at (P := Try.prog) wx B s i ty HI.out hi (by rw [hx]; exact hx128)
        rw [hx] at hnx
        have HI2 := Lib.hid (iterAt_heap wx B s i (i + 1) HI.out)
        have HB2 := Lib.hid (below_iterAt HB.out (Nat.le_refl B) s (i + 1))
        generalize wx.iterAt B s (i + 1) = w2 at *
        have Hx := Lib.hid hxl
        have HS := Lib.hid hi
        clear hxl hx
        have hback : ((x.toNat : Int)).toNat.toUInt8 = x := by simp
        have hcon := Lib.contains_iff_indexByte m.data.toList x
        rw [HMK.out] at hcon
        cases hin : marks.contains x
        · rw [hin] at hcon
          have hlt : ¬ ((0 : Int) ≤ Lib.indexByte marks x) := of_decide_eq_false hcon.symm
          clear hcon
          go_wp2_with fail
          refine (HIA.out _ _ (by omega) (by omega)).mono ?_
          rintro e w' ⟨rfl, rfl⟩
          rw [HMK.out, hback]
          go_wp2_with fail
          go_roundw
          case measure => rw [HP.out, show w'.iterPos B = i + 1 by unfold World.iterPos; rw [HI2.out]]; have := HS.out; omega
          case rel => exact ⟨i + 1, HI2.out, HB2.out, HN.out.succ Hx.out hin⟩
        · rw [hin] at hcon
          have hge : (0 : Int) ≤ Lib.indexByte marks x := of_decide_eq_true hcon.symm
          clear hcon
          go_wp2_with fail
          refine (HIA.out _ _ (by omega) (by omega)).mono ?_
          rintro e w' ⟨rfl, rfl⟩
          rw [HMK.out, hback]
          go_wp2_with fail
          go_ret
          exact ⟨by rw [Lib.indexAny_hit HN.out Hx.out hin]; rfl, by rw [hB]; exact HB2.out⟩
      · have hh : 128 ≤ (s[i]'hi).toNat := by rw [hx]; omega
        obtain ⟨d1, d2⟩ := decode_high s i hi hh
        have hc := cont_high s i hi hh
        have hnx := fun ty => run_next_any_at (P := Try.prog) wx B s i ty HI.out hi
        generalize Utf8.decode s i = rk at d1 d2 hc hnx
        obtain ⟨r, k⟩ := rk
        simp only at d1 d2 hc hnx
        have HI2 := Lib.hid (iterAt_heap wx B s i (i + k) HI.out)
        have HB2 := Lib.hid (below_iterAt HB.out (Nat.le_refl B) s (i + k))
        have HSZ : Hid (B < (wx.iterAt B s (i + k)).heap.size) := (Array.getElem?_eq_some_iff.1 HI2.out).1
        generalize wx.iterAt B s (i + k) = w2 at *
        have HN2 : Hid (Lib.NoAny s.data.toList marks (i + k)) := fun j b hj hb => by
          by_cases hji : j < i
          · exact HN.out j b hji hb
          · have hjs : j < s.size := by
              rw [← data_len]
              exact (List.getElem?_eq_some_iff.1 hb).1
            have hb2 : s[j]'hjs = b := by
              have := Lib.data_getElem? s j hjs
              rw [this] at hb
              exact Option.some.inj hb
            have := hc j hjs (by omega) hj
            rw [hb2] at this
            exact high_noMark this
        have HS := Lib.hid hi
        clear hc hh hx hxl
        have hr : (128 : Int) ≤ (r : Int) := by omega
        go_wp2_with fail
        refine (HIR.out _ _ hr).mono ?_
        rintro e w3 ⟨rfl, hb3⟩
        have HI3 : Hid (w3.heap[B]? = some (.stringIter s (i + k))) := (hb3.block B HSZ.out).trans HI2.out
        have HB3 := Lib.hid (HB2.out.trans (hb3.mono (Nat.le_of_lt HSZ.out)))
        clear hb3
        go_wp2_with fail
        go_roundw
        case measure => rw [HP.out, show w3.iterPos B = i + k by unfold World.iterPos; rw [HI3.out]]; have := HS.out; omega
        case rel => exact ⟨i + k, HI3.out, HB3.out, HN2.out⟩
    · have hnx := fun ty => run_next_end_at (P := Try.prog) wx B s i ty HI.out hi
      have hall : Lib.NoAny s.data.toList marks s.data.toList.length := fun j b hj hb => HN.out j b (by rw [data_len] at hj; omega) hb
      have HL := Lib.hid (Lib.indexAny_none hall)
      clear hall
      go_wp2_with fail
      go_ret
      exact ⟨by rw [HL.out]; rfl, by rw [hB]; exact HB.out⟩
theorem marks_ascii : ∀ (j : Nat) b, (⟨#[60, 62, 44]⟩ : ByteArray).data.toList[j]? = some b → b.toNat < 128 := by
  intro j b h
  have h2 : b ∈ [(60 : UInt8), 62, 44] := List.mem_of_getElem? h
  simp only [List.mem_cons, List.not_mem_nil, or_false] at h2
  rcases h2 with rfl | rfl | rfl <;> decide
/-- IndexAny of the marks -/
theorem ix_any : IxC := fun s w hs => by
  by_cases h8 : s.size ≤ 8
  · exact indexAny_short s w h8
  · have hz := (zero_of_info (P := Try.prog) (t := 129) (by kernel_rfl : (Try.prog.info? 129).map (fun i => (i.zero, i.size)) = some (some (.agg (Array.replicate 256 (.bool false))), 256))).1
    refine (Try.strings_IndexAny_long hz s ⟨#[60, 62, 44]⟩ w (by show 2 ≤ 3; decide) (by omega) (by omega) (by show 3 < _; decide) marks_ascii).mono ?_
    rintro e w' ⟨rfl, rfl⟩
    exact ⟨rfl, bnext (below_box w _) (below_box _ _)⟩
end Go.Proofs.Ytbnnokibjccdaaa
