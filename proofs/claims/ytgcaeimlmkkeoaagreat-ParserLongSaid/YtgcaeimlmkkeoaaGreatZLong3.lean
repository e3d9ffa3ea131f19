/-
  PROVED: sums, products and dots can be long, and a text of about the greatest length is read as the document's reference reads it: for any two numbers; no condition.
-/
import Derived.Test.YtgcaeimlmkkeoaaGreatRows
import Derived.Test.YtgcaeimlmkkeoaaGreatZR17
import Derived.Test.YtgcaeimlmkkeoaaGreatZAW
import Derived.Test.YtgcaeimlmkkeoaaGreatZA1
import Derived.WalkKit
import Derived.ProofKit
import Derived.OpenShut
import Derived.Laws.IdiomStrings
import Derived.Laws.Rows
set_option linter.unusedSimpArgs false
set_option linter.unusedVariables false
namespace Go.Proofs.YtgcaeimlmkkeoaaGreat.parserLong
open Go Go.ChangeShapes Go.WideShapes Go.ChangeAt Go.RowKit
theorem own : ownKnob Tryz.prog.godebug = none := by kernel_rfl
theorem laidOut : laidOutB Tryz.prog = true := by kernel_rfl
theorem info5 : (Tryz.prog.info? 5).map (fun i => (i.zero, i.size, i.bytes)) = some (some (.int .u8 0), 1, 1) := by kernel_rfl
theorem sizeElem58 (w : World) : (sizeOf (Tryz.prog.elem 27)).run Tryz.prog w = .ok 1 w := by kernel_rfl
theorem elem58 : Tryz.prog.underlying 27 = some (.slice (Tryz.prog.elem 27)) := by kernel_rfl
/-- a row of bytes -/
def row (l : List UInt8) : Array Value := (l.map fun b => Value.int .u8 (b.toNat : Int)).toArray
theorem row_set (l : List UInt8) (i : Nat) (b : UInt8) : row (l.set i b) = (row l).setIfInBounds i (.int .u8 (b.toNat : Int)) := by
 unfold row
 rw [List.map_set]
 simp
theorem row_at (l : List UInt8) (i : Nat) (h : i < l.length) : (row l)[i]? = some (.int .u8 (l[i].toNat : Int)) := by simp [row, h]
theorem made_row (k : Nat) : madeCells #[.int .u8 0] k = row (List.replicate k 0) := by
 apply Array.ext'
 simp [madeCells, row]
 apply List.ext_getElem
 ·simp
 ·intro i h1 h2
  simp [Nat.mod_one]
/-- string(b[:d]) -/
theorem conv_row (u : World) (B k d : Nat) (l : List UInt8) (hd : d ≤ l.length) (h : u.heap[B]? = some (.cells (row l) 5 (0, 0))) :
  (convert 27 9 (.slice (some ⟨B, 0, none⟩) d k)).run Tryz.prog u = .ok (.string (Lx.mk (l.take d))) u := by
 have := run_convert_bytes_back (P := Tryz.prog) u 27 9 5 ⟨B, 0, none⟩ k (l.take d) Tryz.underlying27 Tryz.underlying5 Tryz.underlying9 (by
  intro j hj
  rw [List.length_take] at hj
  rw [add_lit, Lib.cell_of_heap h, row_at l (0 + j) (by omega)]
  simp)
 rw [List.length_take, Nat.min_eq_left hd] at this
 exact this
theorem upto_row (u : World) (B k d : Nat) (hd : d ≤ k) : (Instr.slice 27 (.slice (some ⟨B, 0, none⟩) k k) none (some (.int .i64 (d : Int))) none).run Tryz.prog u = .ok (.slice (some ⟨B, 0, none⟩) d k) u := by
 rw [run_slice_h u 27 (some ⟨B, 0, none⟩) k k elem58 .i64 (d : Int) (by omega) (by omega), sizeElem58]
 simp only [Result.andThen, sliced, Int.toNat_natCast, Nat.sub_zero]
 simp [add_lit]
def adds : Array Value := #[.string ⟨#[32, 43, 32, 49]⟩, .string ⟨#[32, 42, 32, 98]⟩, .string ⟨#[46, 120]⟩, .string ⟨#[32, 38, 38, 32, 99]⟩, .string ⟨#[32, 124, 124, 32, 40, 100, 41]⟩]
theorem adds_at (k : Nat) (h : k < 5) : ∃ s : ByteArray, adds[k]? = some (.string s) ∧ s.size ≤ 7 := by
 rcases (by omega : k = 0 ∨ k = 1 ∨ k = 2 ∨ k = 3 ∨ k = 4) with rfl | rfl | rfl | rfl | rfl <;> exact ⟨_, rfl, by decide⟩
set_option maxHeartbeats 4000000 in
set_option maxRecDepth 1000000 in
theorem walk (kind n : Int) (k1 : -9223372036854775808 ≤ kind) (k2 : kind ≤ 9223372036854775807) (n1 : -9223372036854775808 ≤ n) (n2 : n ≤ 9223372036854775807) (w : World) :
  Calls Tryz.prog 4 #[.int .i64 kind, .int .i64 n] w fun e w' => e = .returned (.bool true) ∧ Below w.heap.size w w' := by
 obtain ⟨m, hm, m0, m1⟩ := mod_any n 600 (by omega) (by omega) n1 n2
 obtain ⟨m, rfl⟩ := Int.eq_ofNat_of_zero_le m0
 obtain ⟨d, hd, d0, d1⟩ := mod_any n 3 (by omega) (by omega) n1 n2
 obtain ⟨d, rfl⟩ := Int.eq_ofNat_of_zero_le d0
 obtain ⟨x, hx, x0, x1⟩ := mod_any n 50 (by omega) (by omega) n1 n2
 obtain ⟨k, hk, q0, q1⟩ := mod_any kind 5 (by omega) (by omega) k1 k2
 obtain ⟨k, rfl⟩ := Int.eq_ofNat_of_zero_le q0
 obtain ⟨O, ho, hos⟩ := adds_at k (by omega)
 have HX5 : Hid (∀ u : World, (u.alloc (.cells adds 9)).cell? ⟨u.heap.size, k, none⟩ = some (.string O)) := fun u => by rw [Lib.cell_of_heap (heap_alloc_new u _)]; exact ho
 obtain ⟨i0, hi, hz0, hz1, hz2⟩ := info_parts info5
 have hwr : IntKind.i64.wrap (200 + (m : Int)) = ((200 + m : Nat) : Int) := by rw [IntWalk.i64_in _ (by omega)]; omega
 have hwr2 : (200 : Int) + (m : Int) = ((200 + m : Nat) : Int) := by omega
 obtain ⟨K, hKK⟩ : ∃ K, 200 + m = K := ⟨_, rfl⟩
 rw [hKK] at hwr hwr2
 have hK1 : K ≤ 800 := by omega
 have HM := Lib.hid hm
 have HD := Lib.hid hd
 have HX := Lib.hid hx
 have HK := Lib.hid hk
 have hmk : Hid (∀ u : World, (Instr.makeSlice 27 (.int .i64 (19999 + (d : Int))) (.int .i64 (19999 + (d : Int)))).run Tryz.prog u = .ok (.slice (some ⟨u.heap.size, 0, none⟩) (19999 + d) (19999 + d)) (u.alloc (.cells (row (List.replicate (19999 + d) 0)) 5))) := fun u => by
  have h := run_make (P := Tryz.prog) u 27 5 i0 (.int .u8 0) Tryz.underlying27 hi hz0 .i64 .i64 ((19999 + d : Nat) : Int) ((19999 + d : Nat) : Int) (by omega) (Int.le_refl _) (by rw [hz2]; omega) (by omega)
  rw [← made_row]
  have e : ((19999 + d : Nat) : Int).toNat = 19999 + d := Int.toNat_natCast _
  rw [e, hz1, Nat.mul_one] at h
  have em : ((19999 + d : Nat) : Int) = 19999 + (d : Int) := by omega
  rw [em] at h
  exact h
 have hlen : (List.replicate (19999 + d) (0 : UInt8)).length = 19999 + d := by simp
 generalize List.replicate (19999 + d) (0 : UInt8) = l0 at *
 have HL0 := Lib.hid hlen
 have hdw : (d : Int) < 3 := d1
 have hk5 : (k : Int) < 5 := q1
 unfold adds at HX5
 clear hm hd hx hk ho m0 m1 d0 d1 q0 q1 hi hz0 hz1 hz2 hlen hKK
 go_enter Tryz.func4, Tryz.ntmps4
 go_wp2_with fail
 refine (HM.out _).mono ?_
 rintro e w1 ⟨rfl, rfl⟩
 go_wp2_with fail
 try rw [hwr]
 try rw [hwr2]
 go_loopw [6, 7] (fun v6 v7 wr => ∃ (j : Nat) (A : ByteArray), v7 = .int .i64 j ∧ j ≤ K ∧ v6 = .string A ∧ A.size ≤ 1 + 7 * j ∧ Hid (Below w.heap.size w wr)) (fun _ v7 _ => K - (intOf v7).toNat)
 case atStart => exact ⟨0, _, rfl, Nat.zero_le _, rfl, by decide, Below.refl _ _⟩
 case round =>
  obtain ⟨j, A, rfl, hj, rfl, hA, HB⟩ := hrel
  have hA1 : A.size ≤ 6000 := by omega
  by_cases hlt : j < K
  ·have hlt' : (j : Int) < (K : Int) := by omega
   have hx5 := HX5.out wr
   go_wp2_with fail
   refine (HK.out _).mono ?_
   rintro e w1 ⟨rfl, rfl⟩
   go_wp2_with fail
   go_roundw
   case rel => exact ⟨j + 1, _, by go_num, by omega, rfl, by simp only [ByteArray.size_append]; omega, bnext HB.out (boxB wr _)⟩
   case measure => simp [intOf]; omega
  ·have hlt' : ¬ ((j : Int) < (K : Int)) := by omega
   have hmw := hmk.out wr
   go_wp2_with fail
   refine (HD.out _).mono ?_
   rintro e w1 ⟨rfl, rfl⟩
   go_wp2_with fail
   obtain ⟨N, hNN⟩ : ∃ N, 19999 + d = N := ⟨_, rfl⟩
   have hN1 : 19999 ≤ N ∧ N ≤ 20001 := by omega
   have HL1 : Hid (l0.length = N) := by show _ = _; rw [HL0.out, hNN]
   rw [hNN] at *
   have HW0 : Hid (Below w.heap.size w (wr.alloc (.cells (row l0) 5))) := bnext HB.out (boxB wr _)
   have HW1 : Hid ((wr.alloc (.cells (row l0) 5)).heap[wr.heap.size]? = some (.cells (row l0) 5 (0, 0))) := heap_alloc_new wr _
   have HSZ : Hid (w.heap.size ≤ wr.heap.size) := HB.out.size
   obtain ⟨G, hG⟩ : ∃ G, wr.heap.size = G := ⟨_, rfl⟩
   rw [hG] at HW1 HSZ ⊢
   generalize wr.alloc (.cells (row l0) 5) = w2 at *
   clear hmw hNN hG
   go_loopw [9] (fun v wr2 => ∃ j : Nat, j ≤ N ∧ v = .int .i64 j ∧ Hid (∃ l : List UInt8, l.length = N ∧ wr2.heap[G]? = some (.cells (row l) 5 (0, 0))) ∧ Hid (Below w.heap.size w wr2)) (fun v _ => N - (intOf v).toNat)
   case atStart => exact ⟨0, Nat.zero_le _, rfl, ⟨l0, HL1.out, HW1.out⟩, HW0.out⟩
   case round =>
    obtain ⟨j2, hj2, rfl, hrow, hb⟩ := hrel
    obtain ⟨l, hl, hh⟩ := hrow.out
    have HH := Lib.hid hh
    have HLL := Lib.hid hl
    by_cases hlt2 : j2 < N
    ·have c0 : wr.cell? ⟨G, j2, none⟩ = some (.int .u8 ((l[j2]'(by omega)).toNat : Int)) := by rw [Lib.cell_of_heap hh, row_at l j2 (by omega)]
     have f0 : wr.frozen? ⟨G, j2, none⟩ = false := Lib.frozen_of_heap hh j2
     have hj2i : (j2 : Int) < (N : Int) := by omega
     generalize ((l[j2]'(by omega)).toNat : Int) = old at c0
     clear hl hh hrow
     go_wp2_with fail
     go_roundw
     case rel => exact ⟨j2 + 1, by omega, by go_num, ⟨l.set j2 59, by rw [List.length_set]; exact HLL.out, by rw [row_set]; exact heap_setCell_same _ _ _ _ _ _ HH.out⟩, hb.out.setCell (p := ⟨G, j2, none⟩) HSZ.out _⟩
     case measure => simp [intOf]; omega
    ·have hj2i : ¬ ((j2 : Int) < (N : Int)) := by omega
     have hG : G < wr.heap.size := lt_heap hh
     have HBW := Lib.hid hb.out
     have HGG := Lib.hid hG
     have hje : j2 = N := by omega
     subst hje
     have hS1 : (Lx.mk (l.take 1000)).size ≤ 1000 := by rw [Lx.mk_size, List.length_take]; omega
     have hS2 : (Lx.mk l).size ≤ 20001 := by rw [Lx.mk_size]; omega
     have HSL : Hid (∀ u : World, (Instr.slice 27 (.slice (some ⟨G, 0, none⟩) j2 j2) none (some (.int .i64 1000)) none).run Tryz.prog u = .ok (.slice (some ⟨G, 0, none⟩) 1000 j2) u) := fun u => upto_row u G j2 1000 (by omega)
     have HC1 : Hid (∀ u : World, Below wr.heap.size wr u → (convert 27 9 (.slice (some ⟨G, 0, none⟩) 1000 j2)).run Tryz.prog u = .ok (.string (Lx.mk (l.take 1000))) u) := fun u hu => conv_row u G j2 1000 l (by have := HLL.out; omega) (by rw [hu.block G HGG.out]; exact HH.out)
     have HC2 : Hid (∀ u : World, Below wr.heap.size wr u → (convert 27 9 (.slice (some ⟨G, 0, none⟩) j2 j2)).run Tryz.prog u = .ok (.string (Lx.mk l)) u) := fun u hu => by
      have := conv_row u G j2 j2 l (by have := HLL.out; omega) (by rw [hu.block G HGG.out]; exact HH.out)
      rwa [List.take_of_length_le (by have := HLL.out; omega)] at this
     generalize Lx.mk (l.take 1000) = S1 at hS1 HC1
     generalize Lx.mk l = S2 at hS2 HC2
     clear hl hh hrow hG
     go_wp2_with fail
     refine (awake03_any _).mono ?_
     rintro e w3 ⟨rfl, hb3⟩
     have HB3 := Lib.hid hb3
     clear hb3
     have hsl := HSL.out w3
     have AG := fun (S : ByteArray) (W : World) (h : S.size ≤ 4611686018427387904) => agree_any S W h
     have HAG := Lib.hid AG
     clear AG
     go_wp2_with fail
     refine (HAG.out _ _ (by omega)).mono ?_
     rintro e w4 ⟨rfl, hb4⟩
     replace HB3 := Lib.hid (bnext HB3.out hb4)
     clear hb4 hsl
     have hsl := HSL.out w4
     have hc1 := HC1.out w4 HB3.out
     go_wp2_with fail
     refine (HAG.out _ _ (by omega)).mono ?_
     rintro e w5 ⟨rfl, hb5⟩
     replace HB3 := Lib.hid (bnext HB3.out hb5)
     clear hb5 hsl hc1
     go_wp2_with fail
     refine (HX.out _).mono ?_
     rintro e w6 ⟨rfl, rfl⟩
     by_cases hx0 : 0 < x
     ·go_wp2_with fail
      go_ret
      exact ⟨rfl, HBW.out.trans (HB3.out.mono HBW.out.size)⟩
     ·have hc2 := HC2.out w5 HB3.out
      go_wp2_with fail
      refine (HAG.out _ _ (by omega)).mono ?_
      rintro e w7 ⟨rfl, hb7⟩
      replace HB3 := Lib.hid (bnext HB3.out hb7)
      clear hb7 hc2
      go_wp2_with fail
      go_ret
      exact ⟨rfl, HBW.out.trans (HB3.out.mono HBW.out.size)⟩
set_option maxRecDepth 100000 in
theorem lifted (os : Os) (started : os.Started) (H : Type) (enc : TypeId × Value → H) :
  ReturnsInHanded {} Tryz.checked os 4 .any (Rows.parserLongSpec.pre6 enc Tryz.prog Tryz.f4 Rows.parserLongRow.domain false) (Rows.parserLongSpec.post enc Tryz.prog Tryz.f4 false true false false) := by
 refine returnsInHanded_of_change (C := Tryz.checked) own started (by kernel_rfl) Tryz.func4
  (ChangeSpec.witness6 (enc := enc) (C := Tryz.checked) false ⟨#[], #[.int .i64 0, .int .i64 0], []⟩ 8 (by kernel_rfl) (by kernel_rfl) (by kernel_rfl) (by kernel_rfl)) ?_
 intro W base args ds gs before hval0 hW hcnd _
 have hval : ∀ (j : Nat) t v, Tryz.f4.params[j]? = some t → args[j]? = some v → Value.okWide Tryz.prog W .any base t v := hval0
 have hW' := hW
 obtain ⟨p, q, hA0, hV, rfl, hfz, hnd⟩ := hW
 have hA : DataW.TrodAll enc Tryz.prog W 0 (fun _ => true) true Tryz.f4.params.toList args.toList ds p := hA0
 rw [Tryz.params4] at hA hval
 obtain ⟨v0, vs0, d0, ds0, p0, q0, hargs, rfl, rfl, h0, r0⟩ := trodAll_cons hA
 obtain ⟨v1, vs1, d1, ds1, p1, q1, rfl, rfl, rfl, h1, r1⟩ := trodAll_cons r0
 obtain ⟨rfl, rfl, rfl⟩ := trodAll_nil r1
 obtain rfl : args = #[v0, v1] := by cases args; simp_all
 obtain ⟨rfl, rfl⟩ := trodVars_none hV
 have k0 := h0
 have k1 := h1
 have lt0 : ∀ x ∈ p0, x.block < W.heap.size := by obtain ⟨m, hm⟩ := k0; exact DataW.trod_lt m _ _ _ hm
 have lt1 : ∀ x ∈ p1, x.block < W.heap.size := by obtain ⟨m, hm⟩ := k1; exact DataW.trod_lt m _ _ _ hm
 obtain ⟨a0, rfl, _, _, w0⟩ := open_int Tryz.underlying3 (hval 0 3 v0 rfl rfl) h0
 obtain ⟨a1, rfl, _, _, w1⟩ := open_int Tryz.underlying3 (hval 1 3 v1 rfl rfl) h1
 clear hA0 hval0
 have wa : -9223372036854775808 ≤ a0 ∧ a0 ≤ 9223372036854775807 := by simpa [Lit.wf, IntKind.min, IntKind.max, IntKind.signed, IntKind.bits] using w0
 have wb : -9223372036854775808 ≤ a1 ∧ a1 ≤ 9223372036854775807 := by simpa [Lit.wf, IntKind.min, IntKind.max, IntKind.signed, IntKind.bits] using w1
 refine (walk a0 a1 wa.1 wa.2 wb.1 wb.2 W).mono fun e W' ⟨he, bel⟩ => ?_
 subst he
 exact ⟨_, rfl, _, _, _, [], _, [], hW', trodAll_mk1 (shut_bool Tryz.underlying4 _), (trodAll_cons_mk (Below.trod laidOut (by kernel_rfl) (of_decide_eq_true (by kernel_rfl)) k0 bel lt0) (trodAll_cons_mk (Below.trod laidOut (by kernel_rfl) (of_decide_eq_true (by kernel_rfl)) k1 bel lt1) trodAll_mk0)), rfl, bel.frame _, fun h => by cases h⟩
theorem proved : Rows.ParserLongSaid :=
 OpenClaim.holds_of_wide 4 Tryz.f4 rfl rfl rfl rfl rfl rfl rfl ⟨rfl, rfl, rfl, rfl, rfl⟩ rfl rfl rfl rfl rfl (by kernel_rfl) Tryz.func4 (by kernel_rfl)
  (of_decide_eq_true (by kernel_rfl)) (by unfold Func.isWrapper; first | (rw [if_pos (by decide +kernel)]; kernel_rfl) | (rw [if_neg (by decide +kernel)]; exact ⟨rfl, rfl⟩))
  (fun os started H enc _ => lifted os started H enc)
end Go.Proofs.YtgcaeimlmkkeoaaGreat.parserLong
