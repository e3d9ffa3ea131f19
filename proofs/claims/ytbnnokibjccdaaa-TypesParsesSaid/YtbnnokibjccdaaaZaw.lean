/-
  CONTRACT: the sanity check of layer 9.
-/
import Derived.Test.YtbnnokibjccdaaaZsg
import Derived.Test.YtbnnokibjccdaaaZpv
import Derived.Test.YtbnnokibjccdaaaZpr
namespace Go.Proofs.Ytbnnokibjccdaaa
open Go Go.RowKit Go.Maps Go.Shelf
set_option linter.unusedVariables false
set_option linter.unusedSimpArgs false
set_option maxRecDepth 100000

/-- string([]byte{c}) -/
theorem byte_textT (w : World) (c : Nat) (hc : c < 256) : (convert 38 9 (.slice (some ⟨w.heap.size, 0, none⟩) 1 1)).run Try.prog (w.alloc (.cells #[.int .u8 (c : Int)] 5)) = .ok (.string ⟨#[UInt8.ofNat c]⟩) (w.alloc (.cells #[.int .u8 (c : Int)] 5)) := by
  have h := run_convert_bytes_back (P := Try.prog) (w.alloc (.cells #[.int .u8 (c : Int)] 5)) 38 9 5 ⟨w.heap.size, 0, none⟩ 1 [UInt8.ofNat c] Try.underlying38 Try.underlying5 Try.underlying9 (by
    intro j hj
    simp at hj
    subst hj
    have e : (UInt8.ofNat c).toNat = c := by simp; omega
    rw [add_lit, Lib.cell_of_heap (heap_alloc_new w _)]
    simp
    omega)
  simpa using h
/-- a digit -/
theorem digitT_any (n : Nat) (w : World) (h : n < 10) :
    Calls Try.prog 47 #[.int .i64 (n : Int)] w fun e w' => e = .returned (.string ⟨#[UInt8.ofNat (48 + n)]⟩) ∧ Below w.heap.size w w' := by
  have hlt : (n : Int) < 10 := by omega
  have hnn : ¬ (n : Int) < 0 := by omega
  have e1 : IntKind.i64.wrap (48 + (n : Int)) = 48 + (n : Int) := IntWalk.i64_in _ (by omega)
  have e2 : IntKind.u8.wrap (48 + (n : Int)) = 48 + (n : Int) := IntWalk.u8_in _ (by omega)
  have hcv := byte_textT w (48 + n) (by omega)
  have e3 : ((48 + n : Nat) : Int) = 48 + (n : Int) := by omega
  rw [e3] at hcv
  clear e3
  generalize UInt8.ofNat (48 + n) = c at *
  have HS : Hid (Below w.heap.size w (w.alloc (.cells #[.int .u8 (48 + (n : Int))] 5))) := (Below.refl _ _).alloc (Nat.le_refl _) _
  go_enter Try.func47, Try.ntmps47
  go_wp2_with fail
  go_ret
  exact ⟨rfl, HS.out⟩
/-- a variable -/
theorem v_any (n : Nat) (w : World) (h : n < 10) :
    Calls Try.prog 24 #[.int .i64 (n : Int)] w fun e w' => e = .returned (.agg #[.string ⟨#[63, UInt8.ofNat (48 + n)]⟩, .slice none 0 0]) ∧ Below w.heap.size w w' := by
  have hb1 := below_box w (.cells #[.string ⟨#[]⟩, .slice none 0 0] tpT)
  have hn1 := heap_alloc_new w (.cells #[.string ⟨#[]⟩, .slice none 0 0] tpT)
  obtain ⟨w1, hw1⟩ : ∃ y, w.alloc (.cells #[.string ⟨#[]⟩, .slice none 0 0] tpT) = y := ⟨_, rfl⟩
  obtain ⟨xb, hxb⟩ : ∃ y, w.heap.size = y := ⟨_, rfl⟩
  rw [hw1] at hb1 hn1
  have HC := Lib.hid (digitT_any n w1 h)
  have HB1 := Lib.hid hb1
  have HN1 := Lib.hid hn1
  have happ : (⟨#[63]⟩ : ByteArray) ++ ⟨#[UInt8.ofNat (48 + n)]⟩ = ⟨#[63, UInt8.ofNat (48 + n)]⟩ := rfl
  generalize UInt8.ofNat (48 + n) = c at *
  clear hb1 hn1
  go_enter Try.func24, Try.ntmps24
  go_wp2_with fail
  clear hw1
  refine HC.out.mono ?_
  rintro e w2 ⟨rfl, hb2⟩
  have hn2 := (hb2.block _ (heap_lt_of HN1.out)).trans HN1.out
  obtain ⟨g0, g1, g2, g3, g4, g5⟩ := box_facts hn2 ⟨#[63, c]⟩ none 0 0
  have hl := load_tp _ _ _ _ _ _ (box_store hn2 ⟨#[63, c]⟩ none 0 0)
  have hbf : Below w.heap.size w ((w2.setCell ⟨w.heap.size, 0, none⟩ (.string ⟨#[63, c]⟩)).setCell ⟨w.heap.size, 1, none⟩ (.slice none 0 0)) := ((bnext HB1.out hb2).setCell (p := ⟨w.heap.size, 0, none⟩) (Nat.le_refl _) _).setCell (p := ⟨w.heap.size, 1, none⟩) (Nat.le_refl _) _
  have HBF := Lib.hid hbf
  rw [hxb] at g0 g1 g2 g3 g4 g5 hl
  have HL := Lib.hid hl
  clear hn2 hb2 hl hbf HC
  go_wp2_with fail
  refine bodyPost_ret (results_cellP rfl _ _ _ ⟨xb, 0, none⟩ _ rfl HL.out) rfl ?_
  exact ⟨rfl, by have := HBF.out; rw [hxb] at this ⊢; exact this⟩
def awB : ByteArray := ⟨#[97, 58, 58, 80, 60, 105, 110, 116, 44, 36, 84, 62]⟩
def awT : Tp := .mk ⟨#[97, 58, 58, 80]⟩ [.mk ⟨#[105, 110, 116]⟩ [], .mk ⟨#[36, 84]⟩ []]
theorem parT_aw : parT (awB.size + 1) awB.data.toList = some (awT, []) := by kernel_rfl
theorem parse_aw : parseV awB = some awT := parseV_nil parT_aw (by simp [awT, sizeP_mk])
theorem print_aw : prS awT = awB := by
  unfold prS
  have h : prL awT = awB.data.toList := by
    unfold awT awB
    simp [prL_mk, argsL]
  rw [h]
set_option maxHeartbeats 4000000 in
/-- awake -/
theorem awake_any (w : World) : Calls Try.prog 10 #[] w fun e w' => e = .returned (.bool true) ∧ Below w.heap.size w w' := by
  have HV := Lib.hid (fun (n : Nat) w (h : n < 10) => v_any n w h)
  go_enter Try.func10, Try.ntmps10
  go_wp2_with fail
  refine (HV.out 0 _ (by decide)).mono ?_
  rintro e w1 ⟨rfl, hb1⟩
  go_wp2_with fail
  refine (HV.out 1 _ (by decide)).mono ?_
  rintro e w2 ⟨rfl, hb2⟩
  go_wp2_with fail
  refine (HV.out 1 _ (by decide)).mono ?_
  rintro e w3 ⟨rfl, hb3⟩
  have HB3 := Lib.hid (bnext (bnext hb1 hb2) hb3)
  clear hb1 hb2 hb3
  go_wp2_with fail
  have hn4 := heap_alloc_new w3 (.cells #[.string nm0, .slice none 0 0, .string nm1, .slice none 0 0, .string nm1, .slice none 0 0, .string nmI, .slice none 0 0] 47)
  have hb4 := below_box w3 (.cells #[.string nm0, .slice none 0 0, .string nm1, .slice none 0 0, .string nm1, .slice none 0 0, .string nmI, .slice none 0 0] 47)
  have he4 : EqA (w3.alloc (.cells #[.string nm0, .slice none 0 0, .string nm1, .slice none 0 0, .string nm1, .slice none 0 0, .string nmI, .slice none 0 0] 47)) w3.heap.size := ⟨⟨by rw [Lib.cell_of_heap hn4]; rfl, by rw [Lib.cell_of_heap hn4]; rfl⟩, ⟨by rw [Lib.cell_of_heap hn4]; rfl, by rw [Lib.cell_of_heap hn4]; rfl⟩, ⟨by rw [Lib.cell_of_heap hn4]; rfl, by rw [Lib.cell_of_heap hn4]; rfl⟩, ⟨by rw [Lib.cell_of_heap hn4]; rfl, by rw [Lib.cell_of_heap hn4]; rfl⟩⟩
  refine (solve_aw w3.heap.size 2 _ he4).mono ?_
  rintro e w5 ⟨ob, v0, v1, rfl, ho5, hb5⟩
  have HB5 := Lib.hid (bnext (bnext HB3.out hb4) hb5)
  have HO5 := Lib.hid ho5
  clear hn4 hb4 he4 ho5 hb5
  go_wp2_with fail
  refine (parse_any awB w5 (by decide)).mono ?_
  rintro e w6 (⟨q, t, rfl, hv, hip, hb6⟩ | ⟨rfl, hv, hb6⟩)
  · rw [parse_aw] at hv
    obtain rfl : awT = t := Option.some.inj hv
    clear hv
    obtain ⟨qn, qp, ql, qc⟩ := q
    obtain ⟨hql, -, -⟩ := hip.parts.2.at_
    have hql2 : ql = 2 := hql
    subst hql2
    have ho6 := (hb6.block ob (heap_lt_of HO5.out)).trans HO5.out
    have hb7 := below_box w6 (.cells #[.string qn, .slice qp 2 qc] tpT)
    have hn7 := heap_alloc_new w6 (.cells #[.string qn, .slice qp 2 qc] tpT)
    have ho7 := (hb7.block ob (heap_lt_of ho6)).trans ho6
    have hip7 := hip.later hb7
    have c0 : (w6.alloc (.cells #[.string qn, .slice qp 2 qc] tpT)).cell? ⟨ob, 0, none⟩ = some (.string nmI) := by rw [Lib.cell_of_heap ho7]; rfl
    have c2 : (w6.alloc (.cells #[.string qn, .slice qp 2 qc] tpT)).cell? ⟨ob, 2, none⟩ = some (.string nm0) := by rw [Lib.cell_of_heap ho7]; rfl
    have k0 : (w6.alloc (.cells #[.string qn, .slice qp 2 qc] tpT)).cell? ⟨w6.heap.size, 0, none⟩ = some (.string qn) := by rw [Lib.cell_of_heap hn7]; rfl
    have k1 : (w6.alloc (.cells #[.string qn, .slice qp 2 qc] tpT)).cell? ⟨w6.heap.size, 1, none⟩ = some (.slice qp 2 qc) := by rw [Lib.cell_of_heap hn7]; rfl
    have e1 : (nmI.toList == [105, 110, 116]) = true := by rw [Lib.toList_data]; rfl
    have e2 : (nm0.toList == [63, 48]) = true := by rw [Lib.toList_data]; rfl
    have HPR := Lib.hid (print_any _ ⟨qn, qp, 2, qc⟩ awT _ hip7 (by rw [show prL awT = awB.data.toList by unfold awT awB; simp [prL_mk, argsL]]; decide))
    rw [print_aw] at HPR
    have HB7 := Lib.hid (bnext (bnext HB5.out hb6) hb7)
    have e3 : (awB.toList == [97, 58, 58, 80, 60, 105, 110, 116, 44, 36, 84, 62]) = true := by rw [Lib.toList_data]; rfl
    clear hip hql hb6 ho6 hb7 hn7 ho7 hip7
    go_wp2_with fail
    refine HPR.out.mono ?_
    rintro e w8 ⟨rfl, hb8⟩
    have HB8 := Lib.hid (bnext HB7.out hb8)
    clear hb8 HPR
    go_wp2_with fail
    go_ret
    exact ⟨rfl, HB8.out⟩
  · rw [parse_aw] at hv
    cases hv
end Go.Proofs.Ytbnnokibjccdaaa
