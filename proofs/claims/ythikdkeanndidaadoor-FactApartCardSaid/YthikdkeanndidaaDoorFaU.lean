/-
  CONTRACT: the reference's Unpack.
-/
import Derived.Test.YthikdkeanndidaaDoorFaR
namespace Go.Proofs.YthikdkeanndidaaDoor
open Go Go.RowKit
set_option linter.unusedVariables false
set_option linter.unusedSimpArgs false
set_option maxRecDepth 100000

theorem info_s : (Tryd.prog.info? 9).map (fun i => (i.zero, i.size, i.bytes)) = some (some (.string ⟨#[]⟩), encN.size, 16) := by kernel_rfl

namespace Fa
theorem packL_count (L : List ByteArray) : L.length ≤ (packL L).length := by
  induction L with
  | nil => exact Nat.le_refl _
  | cons x L ih => simp only [packL, List.length_append, List.length_cons]; omega
/-- what reading a pack gives: its strings, or nothing -/
def Got (s : List UInt8) (L : List ByteArray) (b : Bool) : Prop := (b = true → packL L = s) ∧ (b = false → L = [] ∧ ∀ L', packL L' ≠ s)
theorem Got.same {s : List UInt8} {L L' : List ByteArray} {b b' : Bool} (hlen : s.length < 9223372036854775808) (h : Got s L b) (h' : Got s L' b') : L = L' ∧ b = b' := by
  cases b <;> cases b'
  · exact ⟨(h.2 rfl).1.trans (h'.2 rfl).1.symm, rfl⟩
  · exact absurd (h'.1 rfl) ((h.2 rfl).2 L')
  · exact absurd (h.1 rfl) ((h'.2 rfl).2 L)
  · exact ⟨pack_inj (by rw [h.1 rfl]; exact hlen) ((h.1 rfl).trans (h'.1 rfl).symm), rfl⟩
theorem Got.no {s r : List UInt8} {A : List ByteArray} (hlen : s.length < 9223372036854775808) (h : s = packL A ++ r) (hbad : ∀ L, packL L ≠ r) : Got s [] false :=
  ⟨fun e => (by cases e), fun _ => ⟨rfl, fun L e => Unp.fail hlen h hbad L e⟩⟩
theorem Got.yes {s : List UInt8} {A : List ByteArray} (h : s = packL A ++ []) : Got s A true :=
  ⟨fun _ => by rw [h, List.append_nil], fun e => by cases e⟩
end Fa

theorem extract_data (s : ByteArray) (a b : Nat) : (s.extract a b).data.toList = (s.data.toList.drop a).take (b - a) := by
  rw [ByteArray.data_extract, Array.toList_extract]
theorem colon_split {r : ByteArray} {j : Nat} (hj : j < r.size) (hc : r[j]'hj = 58) : r.data.toList = r.data.toList.take j ++ 58 :: r.data.toList.drop (j + 1) := by
  conv => lhs; rw [← List.take_append_drop j r.data.toList]
  rw [List.drop_eq_getElem_cons (by rw [Fa.len_data]; exact hj)]
  congr 2
/-- the bytes of a string that is a value -/
def vSize : Value → Nat
  | .string s => s.size
  | _ => 0
theorem u8_ne {c : UInt8} (h : c ≠ 58) : ((c.toNat : Int) != 58) = true := by
  rw [bne_iff_ne]
  intro e
  apply h
  apply UInt8.toNat_inj.1
  show _ = 58
  omega
theorem no_num {d : List UInt8} (h : Fa.numOf d = none) (b : List UInt8) (hb : b.length < 9223372036854775808) (n : Nat) (hn : n ≤ b.length) : Lib.itoa (n : Int) ≠ d :=
  Fa.numOf_none_ne h n (by omega) (by omega)
theorem not_num {d : List UInt8} {v : Int} (h : Fa.numOf d = some v) (b : List UInt8) (hb : b.length < 9223372036854775808) (hv : v < 0 ∨ (b.length : Int) < v) (n : Nat) (hn : n ≤ b.length) : Lib.itoa (n : Int) ≠ d := by
  intro e
  have e2 := Fa.numOf_itoa (n : Int) (by omega) (by omega)
  rw [e, h] at e2
  injection e2 with e2
  omega

/-- what reading the pack s has returned -/
def UnpRet (base : Nat) (s : List UInt8) (e : Ending) (w' : World) : Prop := ∃ v L b, e = .returned (.tuple #[v, .bool b]) ∧ OwnL encN 9 w' base v L ∧ Fa.Got s L b
theorem UnpRet.mk {base : Nat} {s : List UInt8} {w' : World} {v : Value} {L : List ByteArray} {b : Bool} (h1 : OwnL encN 9 w' base v L) (h2 : Fa.Got s L b) : UnpRet base s (.returned (.tuple #[v, .bool b])) w' := ⟨v, L, b, rfl, h1, h2⟩
set_option maxHeartbeats 4000000 in
theorem runpack_any (s : ByteArray) (w : World) (hs : s.size ≤ 1000000000) :
    Calls Tryd.prog 37 #[.string s] w fun e w' => UnpRet w.heap.size s.data.toList e w' ∧ Below w.heap.size w w' := by
  have hsl : s.data.toList.length = s.size := Fa.len_data s
  have HSL : Hid (s.data.toList.length < 9223372036854775808) := by show _ < _; omega
  obtain ⟨sl, hsl2⟩ : ∃ l, l = s.data.toList := ⟨_, rfl⟩
  have HS2 := Lib.hid hsl2
  have HS3 : Hid (sl.length ≤ 1000000000) := by show _ ≤ _; rw [hsl2]; omega
  rw [← hsl2] at HSL ⊢
  clear hsl hsl2
  go_enter Tryd.func37, Tryd.ntmps37
  go_wp2_with fail
  go_loopw [0, 4, 5, 6, 7] (fun rv out _ _ _ wr => ∃ (r : ByteArray) (A : List ByteArray), rv = .string r ∧ Hid (OwnL encN 9 wr w.heap.size out A) ∧ Hid (sl = Fa.packL A ++ r.data.toList) ∧ Hid (Below w.heap.size w wr)) (fun rv _ _ _ _ _ => vSize rv)
  case atStart => exact ⟨s, [], rfl, OwnL.isNil _ _ _ _, by show _ = _; rw [HS2.out]; rfl, Below.refl _ _⟩
  case round =>
    obtain ⟨r, A, rfl, HO, HR, HB⟩ := hrel
    obtain ⟨wx, rfl⟩ : ∃ x, x = wr := ⟨wr, rfl⟩
    have hAr : A.length + r.size ≤ 1000000000 := by
      have h1 := HR.out
      have h2 := HS3.out
      have h3 := Fa.packL_count A
      rw [h1, List.length_append, Fa.len_data] at h2
      omega
    by_cases h0 : 0 < r.size
    · have h0i : (0 : Int) < (r.size : Int) := by omega
      go_wp2_with fail
      go_loop [5] (fun k => ∃ j : Nat, j ≤ r.size ∧ j ≤ 20 ∧ k = .int .i64 j ∧ Hid ((58 : UInt8) ∉ r.data.toList.take j)) (fun k => r.size - (intOf k).toNat)
      case atStart => exact ⟨0, Nat.zero_le _, Nat.zero_le _, rfl, by show _ ∉ _; simp⟩
      case round =>
        obtain ⟨j, hj, hj20, rfl, HN⟩ := hrel
        have stop : (∃ hj : j < r.size, r[j]'hj = 58) ∨ (¬ j < r.size) ∨ (∃ hj : j < r.size, r[j]'hj ≠ 58 ∧ j = 20) ∨ (∃ hj : j < r.size, r[j]'hj ≠ 58 ∧ j < 20) := by
          by_cases h1 : j < r.size
          · by_cases h2 : r[j]'h1 = 58
            · exact .inl ⟨h1, h2⟩
            · by_cases h3 : j < 20
              · exact .inr (.inr (.inr ⟨h1, h2, h3⟩))
              · exact .inr (.inr (.inl ⟨h1, h2, by omega⟩))
          · exact .inr (.inl h1)
        rcases stop with ⟨hlt, hcol⟩ | hge | ⟨hlt, hcol, h20⟩ | ⟨hlt, hcol, h20⟩
        · have hlti : (j : Int) < (r.size : Int) := by omega
          have hnel : ((j : Int) == (r.size : Int)) = false := by rw [beq_eq_false_iff_ne]; omega
          have hcq : (((r[j]'hlt).toNat : Int) != 58) = false := by rw [hcol]; rfl
          have hsp := colon_split hlt hcol
          have hdl : (r.extract 0 j).data.toList = r.data.toList.take j := by rw [extract_data]; simp
          obtain ⟨d, hd⟩ : ∃ d, d = r.extract 0 j := ⟨_, rfl⟩
          rw [← hd] at hdl
          obtain ⟨tl, htl⟩ : ∃ t, t = r.data.toList.drop (j + 1) := ⟨_, rfl⟩
          rw [← htl, ← hdl] at hsp
          have hnd : (58 : UInt8) ∉ d.data.toList := by rw [hdl]; exact HN.out
          have htll : tl.length = r.size - j - 1 := by rw [htl, List.length_drop, Fa.len_data]; omega
          have hds : d.size ≤ 1000000000 := by rw [← Fa.len_data, hdl, List.length_take, Fa.len_data]; omega
          have HRD := Lib.hid (fun w => rread_any d w hds)
          have HSP : Hid (sl = Fa.packL A ++ (d.data.toList ++ 58 :: tl)) := by show _ = _; rw [← hsp]; exact HR.out
          obtain ⟨o, ho⟩ : ∃ o, o = Fa.numOf d.data.toList := ⟨_, rfl⟩
          rw [← ho] at HRD
          have HNO := Lib.hid ho
          have HND := Lib.hid hnd
          have HTL := Lib.hid htl
          have HTLL := Lib.hid htll
          have hbx := HB.out
          have HBX0 := Lib.hid hbx
          have e1 : IntKind.i64.wrap ((r.size : Int) - (j : Int)) = (r.size : Int) - (j : Int) := IntWalk.i64_in _ (by omega)
          have e2 : IntKind.i64.wrap ((r.size : Int) - (j : Int) - 1) = (r.size : Int) - (j : Int) - 1 := IntWalk.i64_in _ (by omega)
          have hdx := hd.symm
          clear hcol hsp hdl hd htl hnd htll ho hbx HN HR
          by_cases hk20 : (j : Int) < 20
          all_goals
            go_wp2_with fail
            refine (HRD.out _).mono ?_
            rintro e w1 ⟨⟨n, rfl, hn⟩, hb1⟩
            have HB1 := Lib.hid (bnext HB.out hb1)
            have HBT := Lib.hid (HB.out.trans (hb1.mono HB.out.size))
            have HO1 := Lib.hid (HO.out.below hb1)
            have HN1 := Lib.hid hn
            clear hb1 hn HRD
            cases ho : o with
            | none =>
              have HG : Hid (Fa.Got sl [] false) := Fa.Got.no HSL.out HSP.out (fun L => Fa.bad_head HND.out (no_num (by rw [← HNO.out]; exact ho) tl (by rw [HTLL.out]; omega)) L)
              go_wp2_with fail
              go_ret2
              exact ⟨UnpRet.mk (OwnL.isNil _ _ _ _) HG.out, HBT.out⟩
            | some v =>
              obtain rfl : n = v := HN1.out v ho
              have hvb := Fa.numOf_some (l := d.data.toList) (v := n) (by rw [← HNO.out]; exact ho)
              by_cases hv0 : n < 0
              · have HG : Hid (Fa.Got sl [] false) := Fa.Got.no HSL.out HSP.out (fun L => Fa.bad_head HND.out (not_num (v := n) (by rw [← HNO.out]; exact ho) tl (by rw [HTLL.out]; omega) (.inl hv0)) L)
                clear hvb
                go_wp2_with fail
                go_ret2
                exact ⟨UnpRet.mk (OwnL.isNil _ _ _ _) HG.out, HBT.out⟩
              · by_cases hvl : (r.size : Int) - (j : Int) - 1 < n
                · have HG : Hid (Fa.Got sl [] false) := Fa.Got.no HSL.out HSP.out (fun L => Fa.bad_head HND.out (not_num (v := n) (by rw [← HNO.out]; exact ho) tl (by rw [HTLL.out]; omega) (.inr (by rw [HTLL.out]; omega))) L)
                  clear hvb
                  go_wp2_with fail
                  go_ret2
                  exact ⟨UnpRet.mk (OwnL.isNil _ _ _ _) HG.out, HBT.out⟩
                · obtain ⟨m, rfl⟩ : ∃ m : Nat, n = (m : Int) := ⟨n.toNat, by omega⟩
                  have hml : m ≤ tl.length := by rw [HTLL.out]; omega
                  have hm1 : (0 : Int) ≤ (j : Int) + 1 + (m : Int) := by omega
                  have hm2 : (j : Int) + 1 + (m : Int) ≤ (r.size : Int) := by omega
                  obtain ⟨x, hx⟩ : ∃ x, x = r.extract (j + 1) (j + 1 + m) := ⟨_, rfl⟩
                  obtain ⟨y, hy⟩ : ∃ y, y = r.extract (j + 1 + m) r.size := ⟨_, rfl⟩
                  have hxd : x.data.toList = tl.take m := by
                    rw [hx, extract_data, HTL.out]
                    congr 1
                    omega
                  have hyd : y.data.toList = tl.drop m := by
                    rw [hy, extract_data, HTL.out, List.drop_drop, List.take_of_length_le (by rw [List.length_drop, Fa.len_data]; omega)]
                  have HR2 : Hid (sl = Fa.packL (A ++ [x]) ++ y.data.toList) := by
                    show _ = _
                    rw [hyd]
                    exact Fa.unp_step HSP.out hvb.1 hml x hxd
                  have hysz : y.size < r.size := by
                    rw [← Fa.len_data, hyd, List.length_drop, HTLL.out]
                    omega
                  have hx' := hx.symm
                  have HY := Lib.hid hy.symm
                  clear hvb hxd hyd hx hy hml
                  have R1 : Hid (A.length + [x].length ≤ maxLen) := by unfold Hid maxLen; simp; omega
                  have R2 : Hid ((A.length + [x].length) * 16 ≤ 140737488355328) := by unfold Hid; simp; omega
                  have HLS : Hid (CellsAt (w1.alloc (.cells #[.string x] 9)) w1.heap.size 0 (encN.all [x])) := cellsAt_alloc w1 [.string x] _
                  have HBS : Hid (w.heap.size ≤ (w1.alloc (.cells #[.string x] 9)).heap.size) := Nat.le_trans HBT.out.size (below_box w1 _).size
                  have HOA := Lib.hid (HO1.out.alloc (.cells #[.string x] 9))
                  have ej1 : IntKind.i64.wrap ((j : Int) + 1) = (j : Int) + 1 := IntWalk.i64_in _ (by omega)
                  have ej2 : IntKind.i64.wrap ((j : Int) + 1 + (m : Int)) = (j : Int) + 1 + (m : Int) := IntWalk.i64_in _ (by omega)
                  go_wp2_with (at_builtin; refine wpList_appendL (E := encN) Tryd.underlying41 info_s ?_ rfl (.tmp 59) (.tmp 68) rfl w.heap.size u4 A ?_ ?_ (some ⟨w1.heap.size, 0, none⟩) 1 1 [x] ?_ ?_ ?_ ?_ ?_ ?_ ?_ ?_)
                  · rfl
                  · rfl
                  · exact HOA.out
                  · rfl
                  · rfl
                  · exact fun _ => ⟨_, 0, rfl, HLS.out⟩
                  · exact fun h => by cases h
                  · exact R1
                  · exact R2
                  · exact HBS.out
                  intro out2 w5 hown2 hb2
                  have HB5 := Lib.hid (HBT.out.trans (((below_box w1 (.cells #[.string x] 9)).mono HBT.out.size).trans hb2))
                  have HO5 := Lib.hid hown2
                  have HYS := Lib.hid hysz
                  clear hown2 hb2 HBT HO1 HLS HBS HOA hysz
                  go_wp2_with fail
                  go_roundw
                  case rel => exact ⟨y, A ++ [x], congrArg Value.string HY.out, HO5.out, HR2.out, HB5.out⟩
                  case measure => rw [HY.out]; exact HYS.out
        · have hgei : ¬ (j : Int) < (r.size : Int) := by omega
          obtain rfl : j = r.size := by omega
          have HG : Hid (Fa.Got sl [] false) := Fa.Got.no HSL.out HR.out (fun L => Fa.bad_colon (by intro e; have := Fa.len_data r; rw [e] at this; simp at this; omega) (by have := HN.out; rwa [← Fa.len_data, List.take_length] at this) L)
          have HBX := HB.out
          clear HR HN
          go_wp2_with fail
          go_ret2
          exact ⟨UnpRet.mk (OwnL.isNil _ _ _ _) HG.out, HBX⟩
        · have hlti : (j : Int) < (r.size : Int) := by omega
          subst h20
          have hnel : ((20 : Int) == (r.size : Int)) = false := by rw [beq_eq_false_iff_ne]; omega
          have hcq := u8_ne hcol
          have HG : Hid (Fa.Got sl [] false) := Fa.Got.no HSL.out HR.out (fun L => Fa.bad_long (by rw [Fa.len_data]; omega) (by rw [Fa.len_data]; omega) (by
            rw [List.take_succ_eq_append_getElem (by rw [Fa.len_data]; exact hlt), List.mem_append, List.mem_singleton]
            rintro (h | h)
            · exact HN.out h
            · exact hcol h.symm) L)
          have HBX := HB.out
          clear HR HN hcol
          go_wp2_with fail
          go_ret2
          exact ⟨UnpRet.mk (OwnL.isNil _ _ _ _) HG.out, HBX⟩
        · have hlti : (j : Int) < (r.size : Int) := by omega
          have h20i : (j : Int) < 20 := by omega
          have hcq := u8_ne hcol
          have HN2 : Hid ((58 : UInt8) ∉ r.data.toList.take (j + 1)) := by
            show _ ∉ _
            rw [List.take_succ_eq_append_getElem (by rw [Fa.len_data]; exact hlt), List.mem_append, List.mem_singleton]
            rintro (h | h)
            · exact HN.out h
            · exact hcol h.symm
          clear HN hcol
          go_wp2_with fail
          go_round
          case rel => exact ⟨j + 1, by omega, by omega, by go_num, HN2⟩
          case measure => simp [intOf]; omega
    · have h0i : ¬ (0 : Int) < (r.size : Int) := by omega
      have HG : Hid (Fa.Got sl A true) := Fa.Got.yes (by have := HR.out; rwa [List.eq_nil_of_length_eq_zero (show r.data.toList.length = 0 by rw [Fa.len_data]; omega)] at this)
      clear HR
      go_wp2_with fail
      go_ret2
      exact ⟨UnpRet.mk HO.out HG.out, HB.out⟩
end Go.Proofs.YthikdkeanndidaaDoor
