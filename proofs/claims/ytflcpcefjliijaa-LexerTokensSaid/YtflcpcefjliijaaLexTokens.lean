/-
  PROVED: for any text and any list of numbers, Tokens returns what the document's reference returns of the text, and of the program with changes that the numbers make, and Reserved returns what the reference returns; no condition.
-/
import Derived.Test.YtflcpcefjliijaaRows
import Derived.Test.YtflcpcefjliijaaLexE
import Derived.Test.YtflcpcefjliijaaLexG
import Derived.Test.YtflcpcefjliijaaRolls
import Derived.WalkKit
import Derived.ProofKit
import Derived.OpenShut
import Derived.ShutString
namespace Go.Proofs.Ytflcpcefjliijaa.lexerTokens
open Go.ChangeShapes Go.WideShapes Go.ChangeAt Go.RowKit
open Go.ChangeMaps (open_string shut_string)
set_option linter.unusedVariables false

theorem own : ownKnob Try.prog.godebug = none := by kernel_rfl
theorem laidOut : laidOutB Try.prog = true := by kernel_rfl

theorem len_toks (s : ByteArray) : (tokList s).length ≤ 4611686018427387904 := by
  unfold tokList
  split
  · have := (Lx.toks_scan s).bounds.1
    simp at this
    omega
  · simp

set_option maxHeartbeats 2000000 in
set_option maxRecDepth 100000 in
theorem walk (s : ByteArray) (p : Option Addr) (n cap : Nat) (w : World) (hs : s.size ≤ maxLen) (hn : n ≤ maxLen) (hr : Rolls w p n) (hb : ∀ b o, p = some ⟨b, o, none⟩ → b < w.heap.size) :
    Calls Try.prog 6 #[.string s, .slice p n cap] w fun e w' => e = .returned (.bool true) ∧ Below w.heap.size w w' := by
  by_cases h1 : 400 < n
  · clear hr hb
    go_enter Try.func6, Try.ntmps6
    go_wp2_with fail
    refine (light_no p n cap _ h1 hn).mono ?_
    rintro e w1 ⟨rfl, rfl⟩
    go_wp2_with fail
    refine (awake02_any _).mono ?_
    rintro e w1 ⟨rfl, hb⟩
    have HB := Lib.hid hb
    clear hb
    go_wp2_with fail
    go_ret
    exact ⟨rfl, HB.out⟩
  · by_cases h2 : 3000 < s.size
    · have h3 : (3000 : Int) < (s.size : Int) := by omega
      clear hr hb
      go_enter Try.func6, Try.ntmps6
      go_wp2_with fail
      refine (light_yes p n cap _ (by omega)).mono ?_
      rintro e w1 ⟨rfl, rfl⟩
      go_wp2_with fail
      refine (awake02_any _).mono ?_
      rintro e w1 ⟨rfl, hb⟩
      have HB := Lib.hid hb
      clear hb
      go_wp2_with fail
      go_ret
      exact ⟨rfl, HB.out⟩
    · have h3 : ¬ (3000 : Int) < (s.size : Int) := by omega
      have HDW := Lib.hid (rolled (cap := cap) (show n ≤ 400 by omega) hr hb)
      clear hr hb
      go_enter Try.func6, Try.ntmps6
      go_wp2_with fail
      refine (light_yes p n cap _ (by omega)).mono ?_
      rintro e w1 ⟨rfl, rfl⟩
      go_wp2_with fail
      refine (roll_any p n cap _).mono ?_
      rintro e w2 ⟨rfl, rfl⟩
      go_wp2_with fail
      refine (text_any ⟨w1.heap.size, p, n, cap⟩ _ HDW.out.1 HDW.out.2).mono ?_
      rintro e w3 ⟨tx, rfl, htx, hfd⟩
      have HB3 : Hid (Below w1.heap.size w1 w3) := (below_box w1 _).trans (hfd.base _ (Nat.le_refl _) (below_box w1 _).size)
      clear hfd HDW
      go_wp2_with fail
      refine (awake02_any _).mono ?_
      rintro e w4 ⟨rfl, hb⟩
      have HB4 := Lib.hid (bnext HB3.out hb)
      clear hb HB3
      go_wp2_with fail
      refine (tokens_any s _ (by omega)).mono ?_
      rintro e w5 ⟨v5, rfl, hv5, hb⟩
      have HV5 := Lib.hid hv5
      have HB5 := Lib.hid (bnext HB4.out hb)
      clear hb hv5 HB4
      go_wp2_with fail
      refine (refTokens_any s _ (by omega)).mono ?_
      rintro e w6 ⟨v6, rfl, hv6, hb⟩
      have HV6 := Lib.hid (HV5.out.below hb)
      have HU6 := Lib.hid hv6
      have HB6 := Lib.hid (bnext HB5.out hb)
      clear hb hv6 HB5 HV5
      go_wp2_with fail
      refine (refSame_any v5 v6 (tokList s) _ (len_toks s) HV6.out HU6.out).mono ?_
      rintro e w7 ⟨rfl, hb⟩
      have HB7 := Lib.hid (bnext HB6.out hb)
      clear hb HB6 HV6 HU6
      go_wp2_with fail
      refine (tokens_any tx _ (by omega)).mono ?_
      rintro e w8 ⟨v8, rfl, hv8, hb⟩
      have HV8 := Lib.hid hv8
      have HB8 := Lib.hid (bnext HB7.out hb)
      clear hb hv8 HB7
      go_wp2_with fail
      refine (refTokens_any tx _ (by omega)).mono ?_
      rintro e w9 ⟨v9, rfl, hv9, hb⟩
      have HV9 := Lib.hid (HV8.out.below hb)
      have HU9 := Lib.hid hv9
      have HB9 := Lib.hid (bnext HB8.out hb)
      clear hb hv9 HB8 HV8
      go_wp2_with fail
      refine (refSame_any v8 v9 (tokList tx) _ (len_toks tx) HV9.out HU9.out).mono ?_
      rintro e w10 ⟨rfl, hb⟩
      have HB10 := Lib.hid (bnext HB9.out hb)
      clear hb HB9 HV9 HU9
      go_wp2_with fail
      refine (lexReserved_any s _).mono ?_
      rintro e w11 ⟨rfl, rfl⟩
      go_wp2_with fail
      refine (refReserved_any s _).mono ?_
      rintro e w12 ⟨rfl, hb⟩
      have HB12 := Lib.hid (bnext HB10.out hb)
      clear hb HB10
      generalize Lx.resL s.data.toList = r
      cases r
      · go_wp2_with fail
        go_ret
        exact ⟨rfl, HB12.out⟩
      · go_wp2_with fail
        go_ret
        exact ⟨rfl, HB12.out⟩

set_option maxRecDepth 100000 in
theorem lifted (os : Os) (started : os.Started) (H : Type) (enc : TypeId × Value → H) :
    ReturnsInHanded {} Try.checked os 6 .any (Rows.lexerTokensSpec.pre6 enc Try.prog Try.f6 Rows.lexerTokensRow.domain false) (Rows.lexerTokensSpec.post enc Try.prog Try.f6 false true false false) := by
  refine returnsInHanded_of_change (C := Try.checked) own started (by kernel_rfl) Try.func6
    (ChangeSpec.witness6 (enc := enc) (C := Try.checked) false ⟨#[], #[.string ByteArray.empty, .slice none 0 0], []⟩ 8 (by kernel_rfl) (by kernel_rfl) (by kernel_rfl) (by kernel_rfl)) ?_
  intro W base args ds gs before hval0 hW hcnd _
  have hval : ∀ (j : Nat) t v, Try.f6.params[j]? = some t → args[j]? = some v → Value.okWide Try.prog W .any base t v := hval0
  have hW' := hW
  obtain ⟨p, q, hA0, hV, rfl, hfz, hnd⟩ := hW
  have hA : DataW.TrodAll enc Try.prog W 0 (fun _ => true) true Try.f6.params.toList args.toList ds p := hA0
  rw [Try.params6] at hA hval
  obtain ⟨v0, vs0, d0, ds0, p0, q0, hargs, rfl, rfl, h0, r0⟩ := trodAll_cons hA
  obtain ⟨v1, vs1, d1, ds1, p1, q1, rfl, rfl, rfl, h1, r1⟩ := trodAll_cons r0
  obtain ⟨rfl, rfl, rfl⟩ := trodAll_nil r1
  obtain rfl : args = #[v0, v1] := by cases args; simp_all
  obtain ⟨rfl, rfl⟩ := trodVars_none hV
  have k0 := h0
  have lt0 : ∀ x ∈ p0, x.block < W.heap.size := by obtain ⟨m, hm⟩ := k0; exact DataW.trod_lt m _ _ _ hm
  have k1 := h1
  have lt1 : ∀ x ∈ p1, x.block < W.heap.size := by obtain ⟨m, hm⟩ := k1; exact DataW.trod_lt m _ _ _ hm
  obtain ⟨s, rfl, _, _, ws⟩ := open_string Try.underlying9 (hval 0 9 v0 rfl rfl) h0
  obtain ⟨p', n, cap, rfl, hn, hro, hin⟩ := open_rolls (hval 1 22 v1 rfl rfl) h1
  clear hA0 hval0
  refine (walk s p' n cap W ws hn hro hin).mono fun e W' ⟨he, bel⟩ => ?_
  subst he
  exact ⟨_, rfl, _, _, _, [], _, [], hW', trodAll_mk1 (shut_bool Try.underlying4 _), (trodAll_cons_mk (Below.trod laidOut (by kernel_rfl) (of_decide_eq_true (by kernel_rfl)) k0 bel lt0) (trodAll_cons_mk (Below.trod laidOut (by kernel_rfl) (of_decide_eq_true (by kernel_rfl)) k1 bel lt1) trodAll_mk0)), rfl, bel.frame _, fun h => by cases h⟩

theorem proved : Rows.LexerTokensSaid :=
  OpenClaim.holds_of_wide 6 Try.f6 rfl rfl rfl rfl rfl rfl rfl ⟨rfl, rfl, rfl, rfl, rfl⟩ rfl rfl rfl rfl rfl (by kernel_rfl) Try.func6 (by kernel_rfl)
    (of_decide_eq_true (by kernel_rfl)) (by unfold Func.isWrapper; first | (rw [if_pos (by decide +kernel)]; kernel_rfl) | (rw [if_neg (by decide +kernel)]; exact ⟨rfl, rfl⟩))
    (fun os started H enc _ => lifted os started H enc)
end Go.Proofs.Ytflcpcefjliijaa.lexerTokens
