/-
  CONTRACT: fact.Unpack.
-/
import Derived.Test.YthikdkeanndidaaDoorFaN
namespace Go.Proofs.YthikdkeanndidaaDoor
open Go Go.RowKit
set_option linter.unusedVariables false
set_option linter.unusedSimpArgs false
set_option maxRecDepth 100000

set_option maxHeartbeats 4000000 in
theorem unpack_any (s : ByteArray) (w : World) (hs : s.size ≤ 1000000000) (hw : LaidW w) :
    Calls Tryd.prog 20 #[.string s] w fun e w' => UnpRet w.heap.size s.data.toList e w' ∧ Below w.heap.size w w' := by
  have hsl : s.data.toList.length = s.size := Fa.len_data s
  have HSL : Hid (s.data.toList.length < 9223372036854775808) := by show _ < _; omega
  obtain ⟨sl, hsl2⟩ : ∃ l, l = s.data.toList := ⟨_, rfl⟩
  have HS2 := Lib.hid hsl2
  have HS3 : Hid (sl.length ≤ 1000000000) := by show _ ≤ _; rw [hsl2]; omega
  rw [← hsl2] at HSL ⊢
  have HW := Lib.hid hw
  clear hsl hsl2 hw
  go_enter Tryd.func20, Tryd.ntmps20
  go_wp2_with fail
  go_loopw [0, 4, 5, 6, 7, 8, 9] (fun rv out _ _ _ _ _ wr => ∃ (r : ByteArray) (A : List ByteArray), rv = .string r ∧ Hid (OwnL encN 9 wr w.heap.size out A) ∧ Hid (sl = Fa.packL A ++ r.data.toList) ∧ Hid (Below w.heap.size w wr)) (fun rv _ _ _ _ _ _ _ => vSize rv)
  case atStart => exact ⟨s, [], rfl, OwnL.isNil _ _ _ _, by show _ = _; rw [HS2.out]; rfl, Below.refl _ _⟩
  case round =>
    obtain ⟨r, A, rfl, HO, HR, HB⟩ := hrel
    obtain ⟨wx, rfl⟩ : ∃ x, x = wr := ⟨wr, rfl⟩
    have hAr : A.length + r.size ≤ 1000000000 := by
      have h1 := HR.out
      have h2 := HS3.out
      have h3 := Fa.packL_count A
      rw [h1, List.length_append, Fa.len_data] at h2
      omega
    by_cases h0 : r = ⟨#[]⟩
    · have HG : Hid (Fa.Got sl A true) := Fa.Got.yes (by have := HR.out; rw [h0] at this; exact this)
      have hq : (r.toList == []) = true := by rw [h0, ByteArray.toList_eq]; rfl
      clear HR h0
      go_wp2_with fail
      go_ret2
      exact ⟨UnpRet.mk HO.out HG.out, HB.out⟩
    · have hq : (r.toList == []) = false := by
        have e1 : (⟨#[]⟩ : ByteArray).toList = [] := by rw [ByteArray.toList_eq]
        rw [← e1]
        exact bytes_ne3 h0
      have hrne : r.data.toList ≠ [] := fun e => h0 (ByteArray.ext (Array.toList_inj.1 e))
      clear h0
      go_wp2_with fail
      refine (cut_any r _ (by omega)).mono ?_
      rintro e w1 ⟨hc, hb1⟩
      have HB1 := Lib.hid (HB.out.trans (hb1.mono HB.out.size))
      have HO1 := Lib.hid (HO.out.below hb1)
      clear hb1
      rcases hc with ⟨-, d, b, hsp, hnd, rfl⟩ | ⟨hnc, rfl⟩
      · have hlen : r.size = d.size + b.size + 1 := by
          have := congrArg List.length hsp
          rw [List.length_append, List.length_cons, Fa.len_data, Fa.len_data, Fa.len_data] at this
          omega
        have HSP : Hid (sl = Fa.packL A ++ (d.data.toList ++ 58 :: b.data.toList)) := by show _ = _; rw [← hsp]; exact HR.out
        obtain ⟨o, ho⟩ : ∃ o, o = Fa.numOf d.data.toList := ⟨_, rfl⟩
        have HRD := Lib.hid (fun w hw => number_any d w (by omega) hw)
        rw [← ho] at HRD
        have HNO := Lib.hid ho
        have HND := Lib.hid hnd
        have hbl := Fa.len_data b
        clear ho hnd hsp HR hrne
        go_wp2_with fail
        refine (HRD.out _ (HW.out.below HB1.out)).mono ?_
        rintro e w3 ⟨⟨n, rfl, hn⟩, hb3⟩
        have HBT := Lib.hid (HB1.out.trans (hb3.mono HB1.out.size))
        have HO3 := Lib.hid (HO1.out.below hb3)
        have HN3 := Lib.hid hn
        clear hb3 hn HRD HO1 HB1 HO HB
        cases ho : o with
        | none =>
          have HG : Hid (Fa.Got sl [] false) := Fa.Got.no HSL.out HSP.out (fun L => Fa.bad_head HND.out (no_num (by rw [← HNO.out]; exact ho) b.data.toList (by omega)) L)
          clear hbl
          go_wp2_with fail
          go_ret2
          exact ⟨UnpRet.mk (OwnL.isNil _ _ _ _) HG.out, HBT.out⟩
        | some v =>
          obtain rfl : n = v := HN3.out v ho
          have hvb := Fa.numOf_some (l := d.data.toList) (v := n) (by rw [← HNO.out]; exact ho)
          by_cases hv0 : n < 0
          · have HG : Hid (Fa.Got sl [] false) := Fa.Got.no HSL.out HSP.out (fun L => Fa.bad_head HND.out (not_num (v := n) (by rw [← HNO.out]; exact ho) b.data.toList (by omega) (.inl hv0)) L)
            clear hvb hbl
            go_wp2_with fail
            go_ret2
            exact ⟨UnpRet.mk (OwnL.isNil _ _ _ _) HG.out, HBT.out⟩
          · by_cases hvl : (b.size : Int) < n
            · have HG : Hid (Fa.Got sl [] false) := Fa.Got.no HSL.out HSP.out (fun L => Fa.bad_head HND.out (not_num (v := n) (by rw [← HNO.out]; exact ho) b.data.toList (by omega) (.inr (by omega))) L)
              clear hvb hbl
              go_wp2_with fail
              go_ret2
              exact ⟨UnpRet.mk (OwnL.isNil _ _ _ _) HG.out, HBT.out⟩
            · obtain ⟨m, rfl⟩ : ∃ m : Nat, n = (m : Int) := ⟨n.toNat, by omega⟩
              have hml : m ≤ b.size := by omega
              obtain ⟨x, hx⟩ : ∃ x, x = b.extract 0 m := ⟨_, rfl⟩
              obtain ⟨y, hy⟩ : ∃ y, y = b.extract m b.size := ⟨_, rfl⟩
              have hxd : x.data.toList = b.data.toList.take m := by rw [hx, extract_data]; simp
              have hyd : y.data.toList = b.data.toList.drop m := by
                rw [hy, extract_data, List.take_of_length_le (by rw [List.length_drop, Fa.len_data]; omega)]
              have HR2 : Hid (sl = Fa.packL (A ++ [x]) ++ y.data.toList) := by
                show _ = _
                rw [hyd]
                exact Fa.unp_step HSP.out hvb.1 (by omega) x hxd
              have hysz : y.size < r.size := by
                rw [← Fa.len_data, hyd, List.length_drop]
                omega
              have hx' := hx.symm
              have HY := Lib.hid hy.symm
              clear hvb hxd hyd hx hy hbl
              have R1 : Hid (A.length + [x].length ≤ maxLen) := by unfold Hid maxLen; simp; omega
              have R2 : Hid ((A.length + [x].length) * 16 ≤ 140737488355328) := by unfold Hid; simp; omega
              have HLS : Hid (CellsAt (w3.alloc (.cells #[.string x] 9)) w3.heap.size 0 (encN.all [x])) := cellsAt_alloc w3 [.string x] _
              have HBS : Hid (w.heap.size ≤ (w3.alloc (.cells #[.string x] 9)).heap.size) := Nat.le_trans HBT.out.size (below_box w3 _).size
              have HOA := Lib.hid (HO3.out.alloc (.cells #[.string x] 9))
              go_wp2_with (at_builtin; refine wpList_appendL (E := encN) Tryd.underlying41 info_s ?_ rfl (.tmp 39) (.tmp 43) rfl w.heap.size u4 A ?_ ?_ (some ⟨w3.heap.size, 0, none⟩) 1 1 [x] ?_ ?_ ?_ ?_ ?_ ?_ ?_ ?_)
              · rfl
              · rfl
              · exact HOA.out
              · rfl
              · rfl
              · exact fun _ => ⟨_, 0, rfl, HLS.out⟩
              · exact fun h => by cases h
              · exact R1
              · exact R2
              · exact HBS.out
              intro out2 w5 hown2 hb2
              have HB5 := Lib.hid (HBT.out.trans (((below_box w3 (.cells #[.string x] 9)).mono HBT.out.size).trans hb2))
              have HO5 := Lib.hid hown2
              have HYS := Lib.hid hysz
              clear hown2 hb2 HBT HO3 HLS HBS HOA hysz
              go_wp2_with fail
              go_roundw
              case rel => exact ⟨y, A ++ [x], congrArg Value.string HY.out, HO5.out, HR2.out, HB5.out⟩
              case measure => rw [HY.out]; exact HYS.out
      · obtain ⟨o, ho⟩ : ∃ o, o = Fa.numOf r.data.toList := ⟨_, rfl⟩
        have HRD := Lib.hid (fun w hw => number_any r w (by omega) hw)
        have HG : Hid (Fa.Got sl [] false) := Fa.Got.no HSL.out HR.out (fun L => Fa.bad_colon hrne hnc L)
        clear hnc HR hrne
        go_wp2_with fail
        refine (HRD.out _ (HW.out.below HB1.out)).mono ?_
        rintro e w3 ⟨⟨n, rfl, -⟩, hb3⟩
        have HBT := Lib.hid (HB1.out.trans (hb3.mono HB1.out.size))
        clear hb3 HRD HO1 HB1 HO HB
        go_wp2_with fail
        go_ret2
        exact ⟨UnpRet.mk (OwnL.isNil _ _ _ _) HG.out, HBT.out⟩
end Go.Proofs.YthikdkeanndidaaDoor
