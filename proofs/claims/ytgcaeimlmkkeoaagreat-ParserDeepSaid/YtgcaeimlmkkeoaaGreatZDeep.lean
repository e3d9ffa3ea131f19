/-
  PROVED: which nesting is permitted, for all that nests: the program's functions answer what the document's reference answers, for any two numbers; no condition.
-/
import Derived.Test.YtgcaeimlmkkeoaaGreatRows
import Derived.Test.YtgcaeimlmkkeoaaGreatZR17
import Derived.Test.YtgcaeimlmkkeoaaGreatZAW
import Derived.Test.YtgcaeimlmkkeoaaGreatZA1
import Derived.WalkKit
import Derived.ProofKit
import Derived.OpenShut
set_option linter.unusedSimpArgs false
set_option linter.unusedVariables false
namespace Go.Proofs.YtgcaeimlmkkeoaaGreat.parserDeep
open Go.ChangeShapes Go.WideShapes Go.ChangeAt Go.RowKit
theorem own : ownKnob Tryz.prog.godebug = none := by kernel_rfl
theorem laidOut : laidOutB Tryz.prog = true := by kernel_rfl
def opens : Array Value := #[.string ⟨#[40]⟩, .string ⟨#[45]⟩, .string ⟨#[102, 40]⟩, .string ⟨#[105, 102, 32, 116, 114, 117, 101, 32, 123]⟩, .string ⟨#[123, 32]⟩, .string ⟨#[119, 104, 105, 108, 101, 32, 116, 114, 117, 101, 32, 123, 32]⟩, .string ⟨#[109, 33, 40, 49, 44, 32]⟩, .string ⟨#[33]⟩, .string ⟨#[110, 101, 119, 32, 80, 40]⟩]
def shuts : Array Value := #[.string ⟨#[41]⟩, .string ⟨#[]⟩, .string ⟨#[41]⟩, .string ⟨#[125, 32, 101, 108, 115, 101, 32, 123, 32, 50, 32, 125]⟩, .string ⟨#[125]⟩, .string ⟨#[125, 32]⟩, .string ⟨#[41]⟩, .string ⟨#[]⟩, .string ⟨#[41]⟩]
theorem opens_at (k : Nat) (h : k < 9) : ∃ s : ByteArray, opens[k]? = some (.string s) ∧ s.size ≤ 13 := by
 rcases (by omega : k = 0 ∨ k = 1 ∨ k = 2 ∨ k = 3 ∨ k = 4 ∨ k = 5 ∨ k = 6 ∨ k = 7 ∨ k = 8) with rfl | rfl | rfl | rfl | rfl | rfl | rfl | rfl | rfl <;> exact ⟨_, rfl, by decide⟩
theorem shuts_at (k : Nat) (h : k < 9) : ∃ s : ByteArray, shuts[k]? = some (.string s) ∧ s.size ≤ 13 := by
 rcases (by omega : k = 0 ∨ k = 1 ∨ k = 2 ∨ k = 3 ∨ k = 4 ∨ k = 5 ∨ k = 6 ∨ k = 7 ∨ k = 8) with rfl | rfl | rfl | rfl | rfl | rfl | rfl | rfl | rfl <;> exact ⟨_, rfl, by decide⟩
set_option maxHeartbeats 4000000 in
set_option maxRecDepth 100000 in
theorem walk (kind n : Int) (k1 : -9223372036854775808 ≤ kind) (k2 : kind ≤ 9223372036854775807) (n1 : -9223372036854775808 ≤ n) (n2 : n ≤ 9223372036854775807) (w : World) :
  Calls Tryz.prog 3 #[.int .i64 kind, .int .i64 n] w fun e w' => e = .returned (.bool true) ∧ Below w.heap.size w w' := by
 obtain ⟨m, hm, m0, m1⟩ := mod_any n 6 (by omega) (by omega) n1 n2
 obtain ⟨m, rfl⟩ := Int.eq_ofNat_of_zero_le m0
 obtain ⟨k, hk, q0, q1⟩ := mod_any kind 9 (by omega) (by omega) k1 k2
 obtain ⟨k, rfl⟩ := Int.eq_ofNat_of_zero_le q0
 have hk9 : k < 9 := by omega
 obtain ⟨O, ho, hos⟩ := opens_at k hk9
 obtain ⟨C, hc, hcs⟩ := shuts_at k hk9
 have x1 : (w.alloc (.cells opens 9)).cell? ⟨w.heap.size, k, none⟩ = some (.string O) := by rw [Lib.cell_of_heap (heap_alloc_new w _)]; exact ho
 have x2 : ((w.alloc (.cells opens 9)).alloc (.cells shuts 9)).cell? ⟨w.heap.size + 1, k, none⟩ = some (.string C) := by
  have e : (w.alloc (.cells opens 9)).heap.size = w.heap.size + 1 := by simp
  rw [← e, Lib.cell_of_heap (heap_alloc_new (w.alloc (.cells opens 9)) _)]; exact hc
 have hb2 : Below w.heap.size w ((w.alloc (.cells opens 9)).alloc (.cells shuts 9)) := bnext (boxB w _) (boxB _ _)
 have HM := Lib.hid hm
 have HK := Lib.hid hk
 have HB2 := Lib.hid hb2
 have HM5 : ((m : Int) < 6) := m1
 unfold opens at x1 x2 HB2
 unfold shuts at x2 HB2
 clear hm hk ho hc hb2 q0 m0
 go_enter Tryz.func3, Tryz.ntmps3
 go_wp2_with fail
 refine (HM.out _).mono ?_
 rintro e w1 ⟨rfl, rfl⟩
 go_wp2_with fail
 refine (HK.out _).mono ?_
 rintro e w1 ⟨rfl, rfl⟩
 go_wp2_with fail
 refine (HK.out _).mono ?_
 rintro e w1 ⟨rfl, rfl⟩
 go_wp2_with fail
 refine (HK.out _).mono ?_
 rintro e w1 ⟨rfl, rfl⟩
 have hwr : IntKind.i64.wrap (57 + (m : Int)) = ((57 + m : Nat) : Int) := by rw [IntWalk.i64_in _ (by omega)]; omega
 have hwr2 : (57 : Int) + (m : Int) = ((57 + m : Nat) : Int) := by omega
 obtain ⟨K, hKK⟩ : ∃ K, 57 + m = K := ⟨_, rfl⟩
 rw [hKK] at hwr hwr2
 have hK1 : K ≤ 62 := by omega
 clear HM HK x1 x2 hKK m1
 by_cases h5 : k = 5
 ·subst h5
  go_wp2_with fail
  generalize ((w.alloc (.cells #[.string ⟨#[40]⟩, .string ⟨#[45]⟩, .string ⟨#[102, 40]⟩, .string ⟨#[105, 102, 32, 116, 114, 117, 101, 32, 123]⟩, .string ⟨#[123, 32]⟩, .string ⟨#[119, 104, 105, 108, 101, 32, 116, 114, 117, 101, 32, 123, 32]⟩, .string ⟨#[109, 33, 40, 49, 44, 32]⟩, .string ⟨#[33]⟩, .string ⟨#[110, 101, 119, 32, 80, 40]⟩] 9)).alloc (.cells #[.string ⟨#[41]⟩, .string ⟨#[]⟩, .string ⟨#[41]⟩, .string ⟨#[125, 32, 101, 108, 115, 101, 32, 123, 32, 50, 32, 125]⟩, .string ⟨#[125]⟩, .string ⟨#[125, 32]⟩, .string ⟨#[41]⟩, .string ⟨#[]⟩, .string ⟨#[41]⟩] 9)) = w2 at *
  try rw [hwr]
  try rw [hwr2]
  go_loopw [8, 9, 10] (fun v8 v9 v10 wr => ∃ (j : Nat) (A B : ByteArray), v10 = .int .i64 j ∧ j ≤ K ∧ v8 = .string A ∧ v9 = .string B ∧ A.size ≤ 9 + 26 * j ∧ B.size ≤ 3 + 3 * j ∧ wr = w2) (fun _ _ v10 _ => K - (intOf v10).toNat)
  case atStart => exact ⟨0, _, _, rfl, Nat.zero_le _, rfl, rfl, by decide, by decide, rfl⟩
  case round =>
   obtain ⟨j, A, B, rfl, hj, rfl, rfl, hA, hB, rfl⟩ := hrel
   have hA1 : A.size ≤ 2000 := by omega
   have hB1 : B.size ≤ 200 := by omega
   by_cases hlt : j < K
   ·have hlt' : (j : Int) < (K : Int) := by omega
    go_wp2_with fail
    go_roundw
    case rel => exact ⟨j + 1, _, _, by go_num, by omega, rfl, rfl, by simp only [ByteArray.size_append]; omega, by simp only [ByteArray.size_append]; show 2 + B.size + 1 ≤ _; omega, by first | rfl | trivial⟩
    case measure => simp [intOf]; omega
   ·have hlt' : ¬ ((j : Int) < (K : Int)) := by omega
    go_wp2_with fail
    refine (awake03_any _).mono ?_
    rintro e w3 ⟨rfl, hb⟩
    have HB := Lib.hid (bnext HB2.out hb)
    clear hb
    go_wp2_with fail
    refine (agree_any _ _ (by simp only [ByteArray.size_append]; show 15 + A.size + 1 ≤ _; omega)).mono ?_
    rintro e w4 ⟨rfl, hb⟩
    replace HB := Lib.hid (bnext HB.out hb)
    clear hb
    go_wp2_with fail
    refine (agree_any _ _ (by simp only [ByteArray.size_append]; show 9 + A.size + 2 ≤ _; omega)).mono ?_
    rintro e w4 ⟨rfl, hb⟩
    replace HB := Lib.hid (bnext HB.out hb)
    clear hb
    go_wp2_with fail
    refine (agree_any _ _ (by omega)).mono ?_
    rintro e w4 ⟨rfl, hb⟩
    replace HB := Lib.hid (bnext HB.out hb)
    clear hb
    go_wp2_with fail
    refine (agree_any _ _ (by omega)).mono ?_
    rintro e w4 ⟨rfl, hb⟩
    replace HB := Lib.hid (bnext HB.out hb)
    clear hb
    go_wp2_with fail
    refine (agree_any _ _ (by simp only [ByteArray.size_append]; show 12 + B.size + 13 ≤ _; omega)).mono ?_
    rintro e w4 ⟨rfl, hb⟩
    replace HB := Lib.hid (bnext HB.out hb)
    clear hb
    go_wp2_with fail
    go_ret
    exact ⟨rfl, HB.out⟩
 ·have h5b : ((k : Int) == 5) = false := by simp; omega
  go_wp2_with fail
  generalize ((w.alloc (.cells #[.string ⟨#[40]⟩, .string ⟨#[45]⟩, .string ⟨#[102, 40]⟩, .string ⟨#[105, 102, 32, 116, 114, 117, 101, 32, 123]⟩, .string ⟨#[123, 32]⟩, .string ⟨#[119, 104, 105, 108, 101, 32, 116, 114, 117, 101, 32, 123, 32]⟩, .string ⟨#[109, 33, 40, 49, 44, 32]⟩, .string ⟨#[33]⟩, .string ⟨#[110, 101, 119, 32, 80, 40]⟩] 9)).alloc (.cells #[.string ⟨#[41]⟩, .string ⟨#[]⟩, .string ⟨#[41]⟩, .string ⟨#[125, 32, 101, 108, 115, 101, 32, 123, 32, 50, 32, 125]⟩, .string ⟨#[125]⟩, .string ⟨#[125, 32]⟩, .string ⟨#[41]⟩, .string ⟨#[]⟩, .string ⟨#[41]⟩] 9)) = w2 at *
  try rw [hwr]
  try rw [hwr2]
  go_loopw [8, 9, 10] (fun v8 v9 v10 wr => ∃ (j : Nat) (A B : ByteArray), v10 = .int .i64 j ∧ j ≤ K ∧ v8 = .string A ∧ v9 = .string B ∧ A.size ≤ 9 + 26 * j ∧ B.size ≤ 3 + 3 * j ∧ wr = w2) (fun _ _ v10 _ => K - (intOf v10).toNat)
  case atStart => exact ⟨0, _, _, rfl, Nat.zero_le _, rfl, rfl, by decide, by decide, rfl⟩
  case round =>
   obtain ⟨j, A, B, rfl, hj, rfl, rfl, hA, hB, rfl⟩ := hrel
   have hA1 : A.size ≤ 2000 := by omega
   have hB1 : B.size ≤ 200 := by omega
   by_cases hlt : j < K
   ·have hlt' : (j : Int) < (K : Int) := by omega
    go_wp2_with fail
    go_roundw
    case rel => exact ⟨j + 1, _, _, by go_num, by omega, rfl, rfl, by simp only [ByteArray.size_append]; omega, by simp only [ByteArray.size_append]; show 2 + B.size + 1 ≤ _; omega, by first | rfl | trivial⟩
    case measure => simp [intOf]; omega
   ·have hlt' : ¬ ((j : Int) < (K : Int)) := by omega
    go_wp2_with fail
    refine (awake03_any _).mono ?_
    rintro e w3 ⟨rfl, hb⟩
    have HB := Lib.hid (bnext HB2.out hb)
    clear hb
    go_wp2_with fail
    refine (agree_any _ _ (by simp only [ByteArray.size_append]; show 15 + A.size + 1 ≤ _; omega)).mono ?_
    rintro e w4 ⟨rfl, hb⟩
    replace HB := Lib.hid (bnext HB.out hb)
    clear hb
    go_wp2_with fail
    refine (agree_any _ _ (by simp only [ByteArray.size_append]; show 9 + A.size + 2 ≤ _; omega)).mono ?_
    rintro e w4 ⟨rfl, hb⟩
    replace HB := Lib.hid (bnext HB.out hb)
    clear hb
    go_wp2_with fail
    refine (agree_any _ _ (by omega)).mono ?_
    rintro e w4 ⟨rfl, hb⟩
    replace HB := Lib.hid (bnext HB.out hb)
    clear hb
    go_wp2_with fail
    refine (agree_any _ _ (by omega)).mono ?_
    rintro e w4 ⟨rfl, hb⟩
    replace HB := Lib.hid (bnext HB.out hb)
    clear hb
    go_wp2_with fail
    refine (agree_any _ _ (by simp only [ByteArray.size_append]; show 12 + B.size + 13 ≤ _; omega)).mono ?_
    rintro e w4 ⟨rfl, hb⟩
    replace HB := Lib.hid (bnext HB.out hb)
    clear hb
    go_wp2_with fail
    go_ret
    exact ⟨rfl, HB.out⟩
set_option maxRecDepth 100000 in
theorem lifted (os : Os) (started : os.Started) (H : Type) (enc : TypeId × Value → H) :
  ReturnsInHanded {} Tryz.checked os 3 .any (Rows.parserDeepSpec.pre6 enc Tryz.prog Tryz.f3 Rows.parserDeepRow.domain false) (Rows.parserDeepSpec.post enc Tryz.prog Tryz.f3 false true false false) := by
 refine returnsInHanded_of_change (C := Tryz.checked) own started (by kernel_rfl) Tryz.func3
  (ChangeSpec.witness6 (enc := enc) (C := Tryz.checked) false ⟨#[], #[.int .i64 0, .int .i64 0], []⟩ 8 (by kernel_rfl) (by kernel_rfl) (by kernel_rfl) (by kernel_rfl)) ?_
 intro W base args ds gs before hval0 hW hcnd _
 have hval : ∀ (j : Nat) t v, Tryz.f3.params[j]? = some t → args[j]? = some v → Value.okWide Tryz.prog W .any base t v := hval0
 have hW' := hW
 obtain ⟨p, q, hA0, hV, rfl, hfz, hnd⟩ := hW
 have hA : DataW.TrodAll enc Tryz.prog W 0 (fun _ => true) true Tryz.f3.params.toList args.toList ds p := hA0
 rw [Tryz.params3] at hA hval
 obtain ⟨v0, vs0, d0, ds0, p0, q0, hargs, rfl, rfl, h0, r0⟩ := trodAll_cons hA
 obtain ⟨v1, vs1, d1, ds1, p1, q1, rfl, rfl, rfl, h1, r1⟩ := trodAll_cons r0
 obtain ⟨rfl, rfl, rfl⟩ := trodAll_nil r1
 obtain rfl : args = #[v0, v1] := by cases args; simp_all
 obtain ⟨rfl, rfl⟩ := trodVars_none hV
 have k0 := h0
 have k1 := h1
 have lt0 : ∀ x ∈ p0, x.block < W.heap.size := by obtain ⟨m, hm⟩ := k0; exact DataW.trod_lt m _ _ _ hm
 have lt1 : ∀ x ∈ p1, x.block < W.heap.size := by obtain ⟨m, hm⟩ := k1; exact DataW.trod_lt m _ _ _ hm
 obtain ⟨a0, rfl, _, _, w0⟩ := open_int Tryz.underlying3 (hval 0 3 v0 rfl rfl) h0
 obtain ⟨a1, rfl, _, _, w1⟩ := open_int Tryz.underlying3 (hval 1 3 v1 rfl rfl) h1
 clear hA0 hval0
 have wa : -9223372036854775808 ≤ a0 ∧ a0 ≤ 9223372036854775807 := by simpa [Lit.wf, IntKind.min, IntKind.max, IntKind.signed, IntKind.bits] using w0
 have wb : -9223372036854775808 ≤ a1 ∧ a1 ≤ 9223372036854775807 := by simpa [Lit.wf, IntKind.min, IntKind.max, IntKind.signed, IntKind.bits] using w1
 refine (walk a0 a1 wa.1 wa.2 wb.1 wb.2 W).mono fun e W' ⟨he, bel⟩ => ?_
 subst he
 exact ⟨_, rfl, _, _, _, [], _, [], hW', trodAll_mk1 (shut_bool Tryz.underlying4 _), (trodAll_cons_mk (Below.trod laidOut (by kernel_rfl) (of_decide_eq_true (by kernel_rfl)) k0 bel lt0) (trodAll_cons_mk (Below.trod laidOut (by kernel_rfl) (of_decide_eq_true (by kernel_rfl)) k1 bel lt1) trodAll_mk0)), rfl, bel.frame _, fun h => by cases h⟩
theorem proved : Rows.ParserDeepSaid :=
 OpenClaim.holds_of_wide 3 Tryz.f3 rfl rfl rfl rfl rfl rfl rfl ⟨rfl, rfl, rfl, rfl, rfl⟩ rfl rfl rfl rfl rfl (by kernel_rfl) Tryz.func3 (by kernel_rfl)
  (of_decide_eq_true (by kernel_rfl)) (by unfold Func.isWrapper; first | (rw [if_pos (by decide +kernel)]; kernel_rfl) | (rw [if_neg (by decide +kernel)]; exact ⟨rfl, rfl⟩))
  (fun os started H enc _ => lifted os started H enc)
end Go.Proofs.YtgcaeimlmkkeoaaGreat.parserDeep
