/-
  PROVED: for any sources, any module and any edit, the functions of package source return what the document's reference returns; no condition.
-/
import Derived.Test.YthlkfhbedjbcfaaRows
import Derived.Test.YthlkfhbedjbcfaaAwake
import Derived.Test.YthlkfhbedjbcfaaOpen
import Derived.WalkKit
import Derived.ProofKit
import Derived.OpenShut
import Derived.ShutString
import Derived.SizedLaws
namespace Go.Proofs.Ythlkfhbedjbcfaa.sourceRaw
open Go.ChangeShapes Go.WideShapes Go.ChangeAt Go.RowKit Go.Joins
set_option linter.unusedVariables false

theorem own : ownKnob Try.prog.godebug = none := by kernel_rfl
theorem laidOut : laidOutB Try.prog = true := by kernel_rfl

set_option maxHeartbeats 1000000 in
theorem walk (p : Option Addr) (n cap : Nat) (L : List Src) (nm tx m et : ByteArray) (at_ c : Int) (w : World) (hl : SrcIs w (.slice p n cap) L) (hpn : p = none → cap = 0) (hf : Fits L)
    (f1 : nm.size ≤ maxLen) (f2 : tx.size ≤ 140737488355328) (f3 : m.size ≤ maxLen) (f4 : et.size ≤ 140737488355328)
    (a1 : -9223372036854775808 ≤ at_) (a2 : at_ ≤ 9223372036854775807) (c1 : -9223372036854775808 ≤ c) (c2 : c ≤ 9223372036854775807) :
    Calls Try.prog 3 #[.slice p n cap, .agg #[.string nm, .string tx], .agg #[.string m, .int .i64 at_, .int .i64 c, .string et]] w fun e w' => e = .returned (.bool true) ∧ Below w.heap.size w w' := by
  have hl1 := hl.below (below_box w (.cells #[.string nm, .string tx] 24))
  have hl2 := hl1.below (below_box (w.alloc (.cells #[.string nm, .string tx] 24)) (.cells #[.string m, .int .i64 at_, .int .i64 c, .string et] 26))
  have hst : StaysG ((w.alloc (.cells #[.string nm, .string tx] 24)).alloc (.cells #[.string m, .int .i64 at_, .int .i64 c, .string et] 26)) p n cap w.heap.size (w.heap.size + 1) L nm tx m at_ c et :=
    ⟨⟨hl2, by simp [go_sem], by simp [go_sem]⟩, ⟨hl2, by simp [go_sem], by simp [go_sem], by simp [go_sem], by simp [go_sem]⟩⟩
  have HS0 := Lib.hid hst
  have HB0 := Lib.hid (bnext (below_box w (.cells #[.string nm, .string tx] 24)) (below_box (w.alloc (.cells #[.string nm, .string tx] 24)) (.cells #[.string m, .int .i64 at_, .int .i64 c, .string et] 26)))
  have hcap := hl.lies.2.1
  have hcm := hl.lies.2.2.1
  unfold maxLen at hcm
  have HPN := Lib.hid hpn
  clear hst hl hl1 hl2 hpn
  by_cases hbig : 50 < n
  · go_enter Try.func3, Try.ntmps3
    go_wp2_with fail
    refine (awake_any _).mono ?_
    rintro e w1 ⟨rfl, hb⟩
    have HB1 := Lib.hid (bnext HB0.out hb)
    clear hb
    go_wp2_with fail
    go_ret
    exact ⟨rfl, HB1.out⟩
  · go_enter Try.func3, Try.ntmps3
    go_wp2_with fail
    refine (awake_any _).mono ?_
    rintro e w1 ⟨rfl, hb⟩
    have HS1 := Lib.hid (HS0.out.below hb)
    have HB1 := Lib.hid (bnext HB0.out hb)
    clear hb
    have s0 := HS1.out.one.name
    have s1 := HS1.out.one.text
    have x0 := HS1.out.two.e0
    have x1 := HS1.out.two.e1
    have x2 := HS1.out.two.e2
    have x3 := HS1.out.two.e3
    go_wp2_with fail
    refine (agree_any p n cap L nm tx m et at_ c _ (by omega) HS1.out.one.list HPN.out hf f1 (by unfold maxLen; omega) f3 f4 a1 a2 c1 c2).mono ?_
    rintro e w2 ⟨rfl, hb⟩
    have HS2 := Lib.hid (HS1.out.below hb)
    have HB2 := Lib.hid (bnext HB1.out hb)
    clear hb s0 s1 x0 x1 x2 x3
    have s0 := HS2.out.one.name
    have s1 := HS2.out.one.text
    have x0 := HS2.out.two.e0
    have x1 := HS2.out.two.e1
    have x2 := HS2.out.two.e2
    have x3 := HS2.out.two.e3
    go_wp2_with fail
    refine (agree_any p n cap L m et nm tx at_ c _ (by omega) HS2.out.one.list HPN.out hf f3 (by unfold maxLen; omega) f1 f2 a1 a2 c1 c2).mono ?_
    rintro e w3 ⟨rfl, hb⟩
    have HB3 := Lib.hid (bnext HB2.out hb)
    clear hb
    go_wp2_with fail
    go_ret
    exact ⟨rfl, HB3.out⟩

theorem reach_of {H : Type} {ds : List (DataW H)} {ts : List TypeId} (h : (DataW.weightsEach Try.prog ts ds).all (· ≤ reachBytes) = true) {k : Nat} (hk : k ∈ DataW.weightsEach Try.prog ts ds) : k ≤ 140737488355328 := by
  have h1 := List.all_eq_true.1 h k hk
  have h2 := reachBytes_lt
  have h3 : k ≤ reachBytes := by simpa using h1
  omega

set_option maxRecDepth 100000 in
theorem lifted (os : Os) (started : os.Started) (H : Type) (enc : TypeId × Value → H) :
    ReturnsInHanded {} Try.checked os 3 .any (Rows.sourceRawSpec.pre6 enc Try.prog Try.f3 Rows.sourceRawRow.domain false) (Rows.sourceRawSpec.post enc Try.prog Try.f3 false true false false) := by
  refine returnsInHanded_of_change_sized (C := Try.checked) own started (by kernel_rfl) Try.func3
    (ChangeSpec.witness6 (enc := enc) (C := Try.checked) false ⟨#[], #[.slice none 0 0, .agg #[.string ByteArray.empty, .string ByteArray.empty], .agg #[.string ByteArray.empty, .int .i64 0, .int .i64 0, .string ByteArray.empty]], []⟩ 8 (by kernel_rfl) (by kernel_rfl) (by kernel_rfl) (by kernel_rfl)) ?_
  intro W base args ds gs before hval0 hW hcnd hsz0 _
  have hval : ∀ (j : Nat) t v, Try.f3.params[j]? = some t → args[j]? = some v → Value.okWide Try.prog W .any base t v := hval0
  have hW' := hW
  obtain ⟨p, q, hA0, hV, rfl, hfz, hnd⟩ := hW
  have hA : DataW.TrodAll enc Try.prog W 0 (fun _ => true) true Try.f3.params.toList args.toList ds p := hA0
  obtain ⟨rfl, rfl⟩ := trodVars_none hV
  have hsz : (DataW.weightsEach Try.prog (Try.f3.params.toList ++ []) (ds ++ [])).all (· ≤ reachBytes) = true := hsz0
  rw [Try.params3] at hA hval hsz
  obtain ⟨v0, vs0, d0, ds0, p0, q0, hargs, rfl, rfl, h0, r0⟩ := trodAll_cons hA
  obtain ⟨v1, vs1, d1, ds1, p1, q1, rfl, rfl, rfl, h1, r1⟩ := trodAll_cons r0
  obtain ⟨v2, vs2, d2, ds2, p2, q2, rfl, rfl, rfl, h2, r2⟩ := trodAll_cons r1
  obtain ⟨rfl, rfl, rfl⟩ := trodAll_nil r2
  obtain rfl : args = #[v0, v1, v2] := by cases args; simp_all
  have k0 := h0
  have lt0 : ∀ x ∈ p0, x.block < W.heap.size := by obtain ⟨m, hm⟩ := k0; exact DataW.trod_lt m _ _ _ hm
  have k1 := h1
  have lt1 : ∀ x ∈ p1, x.block < W.heap.size := by obtain ⟨m, hm⟩ := k1; exact DataW.trod_lt m _ _ _ hm
  have k2 := h2
  have lt2 : ∀ x ∈ p2, x.block < W.heap.size := by obtain ⟨m, hm⟩ := k2; exact DataW.trod_lt m _ _ _ hm
  obtain ⟨L, p', cap, rfl, hsrc, hfits, hpn⟩ := open_srcs (hval 0 22 v0 rfl rfl) h0
  obtain ⟨w0, w1, y0, y1, m1, rfl, hd1, _, hy0, hy1⟩ := open_agg2 Try.underlying24 (by kernel_rfl) cells24 (hval 1 24 v1 rfl rfl) h1
  obtain ⟨nm, e0, rfl, wn⟩ := DataW.trod_string Try.underlying9 hy0
  obtain ⟨tx, e1, rfl, wt⟩ := DataW.trod_string Try.underlying9 hy1
  simp only [List.cons.injEq, and_true] at e0 e1
  subst e0; subst e1
  obtain ⟨z0, z1, z2, z3, y2, y3, y4, y5, m2, rfl, hd2, _, hy2, hy3, hy4, hy5⟩ := open_agg4 Try.underlying26 (by kernel_rfl) (by kernel_rfl) (hval 2 26 v2 rfl rfl) h2
  obtain ⟨mo, e2, rfl, wm⟩ := DataW.trod_string Try.underlying9 hy2
  obtain ⟨at_, e3, rfl, wa⟩ := DataW.trod_int Try.underlying3 hy3
  obtain ⟨c, e4, rfl, wc⟩ := DataW.trod_int Try.underlying3 hy4
  obtain ⟨et, e5, rfl, we⟩ := DataW.trod_string Try.underlying9 hy5
  simp only [List.cons.injEq, and_true] at e2 e3 e4 e5
  subst e2; subst e3; subst e4; subst e5
  have ba : -9223372036854775808 ≤ at_ ∧ at_ ≤ 9223372036854775807 := by simpa [Lit.wf, IntKind.min, IntKind.max, IntKind.signed, IntKind.bits] using wa
  have bc : -9223372036854775808 ≤ c ∧ c ≤ 9223372036854775807 := by simpa [Lit.wf, IntKind.min, IntKind.max, IntKind.signed, IntKind.bits] using wc
  have st : tx.size ≤ 140737488355328 := by
    have := reach_of hsz (k := tx.data.toList.length) (DataW.weights_mem_each (j := 1) (t := 24) (d := d1) rfl rfl _ (by rw [hd1]; simp [DataW.weights, DataW.weightsEach, Try.underlying24]))
    simpa using this
  have se : et.size ≤ 140737488355328 := by
    have := reach_of hsz (k := et.data.toList.length) (DataW.weights_mem_each (j := 2) (t := 26) (d := d2) rfl rfl _ (by rw [hd2]; simp [DataW.weights, DataW.weightsEach, Try.underlying26]))
    simpa using this
  clear hA0 hval0
  refine (walk p' L.length cap L nm tx mo et at_ c W hsrc hpn hfits wn st wm se ba.1 ba.2 bc.1 bc.2).mono fun e W' ⟨he, bel⟩ => ?_
  subst he
  exact ⟨_, rfl, _, _, _, [], _, [], hW', trodAll_mk1 (shut_bool Try.underlying4 _), (trodAll_cons_mk (Below.trod laidOut (by kernel_rfl) (of_decide_eq_true (by kernel_rfl)) k0 bel lt0) (trodAll_cons_mk (Below.trod laidOut (by kernel_rfl) (of_decide_eq_true (by kernel_rfl)) k1 bel lt1) (trodAll_cons_mk (Below.trod laidOut (by kernel_rfl) (of_decide_eq_true (by kernel_rfl)) k2 bel lt2) trodAll_mk0))), rfl, bel.frame _, fun h => by cases h⟩

theorem proved : Rows.SourceRawSaid :=
  OpenClaim.holds_of_wide 3 Try.f3 rfl rfl rfl rfl rfl rfl rfl ⟨rfl, rfl, rfl, rfl, rfl⟩ rfl rfl rfl rfl rfl (by kernel_rfl) Try.func3 (by kernel_rfl)
    (of_decide_eq_true (by kernel_rfl)) (by unfold Func.isWrapper; first | (rw [if_pos (by decide +kernel)]; kernel_rfl) | (rw [if_neg (by decide +kernel)]; exact ⟨rfl, rfl⟩))
    (fun os started H enc _ => lifted os started H enc)
end Go.Proofs.Ythlkfhbedjbcfaa.sourceRaw
