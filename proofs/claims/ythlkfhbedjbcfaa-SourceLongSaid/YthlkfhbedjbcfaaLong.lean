/-
  PROVED: near the greatest length of a module the functions of package source return what the document's reference returns, for any two numbers; no condition.
-/
import Derived.Test.YthlkfhbedjbcfaaRows
import Derived.Test.YthlkfhbedjbcfaaAwake
import Derived.Test.YthlkfhbedjbcfaaOpen
import Derived.WalkKit
import Derived.ProofKit
import Derived.OpenShut
import Derived.Laws.IdiomStrings
namespace Go.Proofs.Ythlkfhbedjbcfaa.sourceLong
open Go.ChangeShapes Go.WideShapes Go.ChangeAt Go.RowKit
set_option linter.unusedVariables false

theorem own : ownKnob Try.prog.godebug = none := by kernel_rfl
theorem laidOut : laidOutB Try.prog = true := by kernel_rfl
theorem info5 : (Try.prog.info? 5).map (fun i => (i.zero, i.size, i.bytes)) = some (some (.int .u8 0), 1, 1) := by kernel_rfl

theorem src_one {w : World} {b : Nat} {nm tx : ByteArray} (g1 : w.cell? ⟨b, 0, none⟩ = some (.string nm)) (g2 : w.cell? ⟨b, 1, none⟩ = some (.string tx)) : SrcIs w (.slice (some ⟨b, 0, none⟩) 1 1) [(nm, tx)] :=
  ⟨_, 1, rfl, Nat.le_refl _, by unfold maxLen; omega, lies_one g1 g2⟩
theorem fits_one {nm tx : ByteArray} (h1 : nm.size ≤ maxLen) (h2 : tx.size ≤ maxLen) : Fits [(nm, tx)] := by
  intro x hx
  simp at hx
  subst hx
  exact ⟨h1, h2⟩

/-- string(make([]byte, k)) -/
theorem zeros (k : Nat) (hk : k ≤ 1000000) (w : World) : ∃ (Z : Array Value) (S : ByteArray), S.size = k ∧
    (Instr.makeSlice 39 (.int .i64 (k : Int)) (.int .i64 (k : Int))).run Try.prog w = .ok (.slice (some ⟨w.heap.size, 0, none⟩) k k) (w.alloc (.cells Z 5)) ∧
    (convert 39 9 (.slice (some ⟨w.heap.size, 0, none⟩) k k)).run Try.prog (w.alloc (.cells Z 5)) = .ok (.string S) (w.alloc (.cells Z 5)) := by
  obtain ⟨i0, hi, hz0, hz1, hz2⟩ := info_parts info5
  refine ⟨madeCells #[.int .u8 0] k, ⟨(List.replicate k (0 : UInt8)).toArray⟩, by show (List.replicate k (0 : UInt8)).toArray.size = k; simp, ?_, ?_⟩
  · have h := run_make (P := Try.prog) w 39 5 i0 (.int .u8 0) Try.underlying39 hi hz0 .i64 .i64 (k : Int) (k : Int) (by omega) (Int.le_refl _) (by rw [hz2]; omega) (by omega)
    simpa [hz1, Value.cells] using h
  · have h := run_convert_bytes_back (P := Try.prog) (w.alloc (.cells (madeCells #[.int .u8 0] k) 5)) 39 9 5 ⟨w.heap.size, 0, none⟩ k (List.replicate k (0 : UInt8)) Try.underlying39 Try.underlying5 Try.underlying9 (by
      intro j hj
      rw [add_lit, cell_of_row _ w.heap.size (0 + j) _ 5 (0, 0) (heap_alloc_new w _)]
      simp at hj
      simp [madeCells, hj, Nat.mod_one])
    simpa using h

set_option maxHeartbeats 2000000 in
theorem walk (n at_ : Int) (w0 : -9223372036854775808 ≤ n ∧ n ≤ 9223372036854775807) (w1 : -9223372036854775808 ≤ at_ ∧ at_ ≤ 9223372036854775807) (w : World) :
    Calls Try.prog 5 #[.int .i64 n, .int .i64 at_] w fun e w' => e = .returned (.bool true) ∧ Below w.heap.size w w' := by
  obtain ⟨n1, n2⟩ := w0
  obtain ⟨r, hr, r0, r1⟩ := mod_any n 8 (by omega) (by omega) n1 n2
  obtain ⟨k, rfl⟩ := Int.eq_ofNat_of_zero_le r0
  have q1 : -9223372036854775808 ≤ n.tdiv 8 ∧ n.tdiv 8 ≤ 9223372036854775807 := by
    have := Int.tdiv_eq_ediv (a := n) (b := 8); have e8 : Int.sign 8 = 1 := rfl; rw [e8] at this; split at this <;> omega
  obtain ⟨a, ha, a0, a1⟩ := mod_any at_ 3 (by omega) (by omega) w1.1 w1.2
  obtain ⟨c, hc, c0, c1⟩ := mod_any (n.tdiv 8) 2 (by omega) (by omega) q1.1 q1.2
  obtain ⟨Z, S, hS, hmk, hcv⟩ := zeros (19995 + k) (by omega) w
  have em : ((19995 + k : Nat) : Int) = 19995 + (k : Int) := by omega
  rw [em] at hmk
  have HR := Lib.hid hr
  have HA := Lib.hid ha
  have HC := Lib.hid hc
  have HS := Lib.hid hS
  clear hr ha hc w1 em q1
  generalize hK : 19995 + k = K at *
  have HK := Lib.hid hK
  clear hS hK
  go_enter Try.func5, Try.ntmps5
  go_wp2_with fail
  refine (HR.out _).mono ?_
  rintro e w' ⟨rfl, rfl⟩
  go_wp2_with fail
  refine (HA.out _).mono ?_
  rintro e w2 ⟨rfl, hw⟩
  subst hw
  go_wp2_with fail
  refine (HC.out _).mono ?_
  rintro e w2 ⟨rfl, hw⟩
  subst hw
  have hB := bnext (bnext (below_box w (.cells Z 5)) (below_box _ (.cells #[.string ⟨#[109]⟩, .string ⟨#[120]⟩] 24))) (below_box _ (.cells #[.string ⟨#[109]⟩, .int .i64 a, .int .i64 c, .string S] 26))
  have hst : StaysE (((w.alloc (.cells Z 5)).alloc (.cells #[.string ⟨#[109]⟩, .string ⟨#[120]⟩] 24)).alloc (.cells #[.string ⟨#[109]⟩, .int .i64 a, .int .i64 c, .string S] 26)) (some ⟨w.heap.size + 1, 0, none⟩) 1 1 (w.heap.size + 2) [(⟨#[109]⟩, ⟨#[120]⟩)] ⟨#[109]⟩ a c S :=
    ⟨src_one (by simp [go_sem]) (by simp [go_sem]), by simp [go_sem], by simp [go_sem], by simp [go_sem], by simp [go_sem]⟩
  have HST := Lib.hid hst
  have HB := Lib.hid hB
  clear hst hB
  go_wp2_with fail
  refine (awake_any _).mono ?_
  rintro e w4 ⟨rfl, hb⟩
  have HST4 := Lib.hid (HST.out.below hb)
  have HB4 := Lib.hid (bnext HB.out hb)
  clear hb
  have x0 := HST4.out.e0
  have x1 := HST4.out.e1
  have x2 := HST4.out.e2
  have x3 := HST4.out.e3
  have s1 : (⟨#[109]⟩ : ByteArray).size ≤ maxLen := by decide
  have s2 : (⟨#[120]⟩ : ByteArray).size ≤ maxLen := by decide
  have s3 : S.size ≤ 140737488355328 := by have := HK.out; rw [HS.out]; omega
  have s4 : S.size ≤ maxLen := by have := HK.out; rw [HS.out]; unfold maxLen; omega
  have S1 := Lib.hid s1
  have S2 := Lib.hid s2
  have S3 := Lib.hid s3
  have S4 := Lib.hid s4
  clear s1 s2 s3 s4
  go_wp2_with fail
  refine (agree_any (some ⟨w.heap.size + 1, 0, none⟩) 1 1 [(⟨#[109]⟩, ⟨#[120]⟩)] ⟨#[109]⟩ S ⟨#[109]⟩ S a c _ (by omega) HST4.out.list (fun h => by cases h) (fits_one S1.out S2.out) S1.out S4.out S1.out S3.out (by omega) (by omega) (by omega) (by omega)).mono ?_
  rintro e w5 ⟨rfl, hb⟩
  have HST5 := Lib.hid (HST4.out.below hb)
  have HB5 := Lib.hid (bnext HB4.out hb)
  clear hb x0 x1 x2 x3
  have x0 : ∀ o, (w5.alloc o).cell? ⟨w.heap.size + 1 + 1, 0, none⟩ = some (.string ⟨#[109]⟩) := fun o => (HST5.out.below (below_box w5 o)).e0
  have x1 : ∀ o, (w5.alloc o).cell? ⟨w.heap.size + 1 + 1, 1, none⟩ = some (.int .i64 a) := fun o => (HST5.out.below (below_box w5 o)).e1
  have x2 : ∀ o, (w5.alloc o).cell? ⟨w.heap.size + 1 + 1, 2, none⟩ = some (.int .i64 c) := fun o => (HST5.out.below (below_box w5 o)).e2
  have x3 : ∀ o, (w5.alloc o).cell? ⟨w.heap.size + 1 + 1, 3, none⟩ = some (.string S) := fun o => (HST5.out.below (below_box w5 o)).e3
  have hst6 := HST5.out.below (below_box w5 (.cells #[.string ⟨#[109]⟩, .string S] 24))
  have hB6 := bnext HB5.out (below_box w5 (.cells #[.string ⟨#[109]⟩, .string S] 24))
  have HST6 := Lib.hid hst6
  have HB6 := Lib.hid hB6
  clear hst6 hB6
  go_wp2_with fail
  refine (agree_any (some ⟨w5.heap.size, 0, none⟩) 1 1 [(⟨#[109]⟩, S)] ⟨#[110]⟩ ⟨#[]⟩ ⟨#[109]⟩ S a c _ (by omega) (src_one (box_name w5 _ _ _) (box_text w5 _ _ _)) (fun h => by cases h) (fits_one S1.out S4.out) (by decide) (by decide) S1.out S3.out (by omega) (by omega) (by omega) (by omega)).mono ?_
  rintro e w7 ⟨rfl, hb⟩
  have HB7 := Lib.hid (bnext HB6.out hb)
  clear hb
  go_wp2_with fail
  go_ret
  exact ⟨rfl, HB7.out⟩

set_option maxRecDepth 100000 in
theorem lifted (os : Os) (started : os.Started) (H : Type) (enc : TypeId × Value → H) :
    ReturnsInHanded {} Try.checked os 5 .any (Rows.sourceLongSpec.pre6 enc Try.prog Try.f5 Rows.sourceLongRow.domain false) (Rows.sourceLongSpec.post enc Try.prog Try.f5 false true false false) := by
  refine returnsInHanded_of_change (C := Try.checked) own started (by kernel_rfl) Try.func5
    (ChangeSpec.witness6 (enc := enc) (C := Try.checked) false ⟨#[], #[.int .i64 0, .int .i64 0], []⟩ 8 (by kernel_rfl) (by kernel_rfl) (by kernel_rfl) (by kernel_rfl)) ?_
  intro W base args ds gs before hval0 hW hcnd _
  have hval : ∀ (j : Nat) t v, Try.f5.params[j]? = some t → args[j]? = some v → Value.okWide Try.prog W .any base t v := hval0
  have hW' := hW
  obtain ⟨p, q, hA0, hV, rfl, hfz, hnd⟩ := hW
  have hA : DataW.TrodAll enc Try.prog W 0 (fun _ => true) true Try.f5.params.toList args.toList ds p := hA0
  rw [Try.params5] at hA hval
  obtain ⟨v0, vs0, d0, ds0, p0, q0, hargs, rfl, rfl, h0, r0⟩ := trodAll_cons hA
  obtain ⟨v1, vs1, d1, ds1, p1, q1, rfl, rfl, rfl, h1, r1⟩ := trodAll_cons r0
  obtain ⟨rfl, rfl, rfl⟩ := trodAll_nil r1
  obtain rfl : args = #[v0, v1] := by cases args; simp_all
  obtain ⟨rfl, rfl⟩ := trodVars_none hV
  have k0 := h0
  have lt0 : ∀ x ∈ p0, x.block < W.heap.size := by obtain ⟨m, hm⟩ := k0; exact DataW.trod_lt m _ _ _ hm
  have k1 := h1
  have lt1 : ∀ x ∈ p1, x.block < W.heap.size := by obtain ⟨m, hm⟩ := k1; exact DataW.trod_lt m _ _ _ hm
  obtain ⟨n, rfl, _, _, w0⟩ := open_int Try.underlying3 (hval 0 3 v0 rfl rfl) h0
  obtain ⟨i, rfl, _, _, w1⟩ := open_int Try.underlying3 (hval 1 3 v1 rfl rfl) h1
  clear hA0 hval0
  refine (walk n i (by simpa [Lit.wf, IntKind.min, IntKind.max, IntKind.signed, IntKind.bits] using w0) (by simpa [Lit.wf, IntKind.min, IntKind.max, IntKind.signed, IntKind.bits] using w1) W).mono fun e W' ⟨he, bel⟩ => ?_
  subst he
  exact ⟨_, rfl, _, _, _, [], _, [], hW', trodAll_mk1 (shut_bool Try.underlying4 _), (trodAll_cons_mk (Below.trod laidOut (by kernel_rfl) (of_decide_eq_true (by kernel_rfl)) k0 bel lt0) (trodAll_cons_mk (Below.trod laidOut (by kernel_rfl) (of_decide_eq_true (by kernel_rfl)) k1 bel lt1) trodAll_mk0)), rfl, bel.frame _, fun h => by cases h⟩

theorem proved : Rows.SourceLongSaid :=
  OpenClaim.holds_of_wide 5 Try.f5 rfl rfl rfl rfl rfl rfl rfl ⟨rfl, rfl, rfl, rfl, rfl⟩ rfl rfl rfl rfl rfl (by kernel_rfl) Try.func5 (by kernel_rfl)
    (of_decide_eq_true (by kernel_rfl)) (by unfold Func.isWrapper; first | (rw [if_pos (by decide +kernel)]; kernel_rfl) | (rw [if_neg (by decide +kernel)]; exact ⟨rfl, rfl⟩))
    (fun os started H enc _ => lifted os started H enc)
end Go.Proofs.Ythlkfhbedjbcfaa.sourceLong
