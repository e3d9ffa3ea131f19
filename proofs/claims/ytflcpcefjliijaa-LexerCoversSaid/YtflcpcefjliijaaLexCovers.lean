/-
  PROVED: for any text and any list of numbers, the tokens of the text followed by the program with changes that the numbers make are where they say, in order; what is between them is blanks and comments; they reach to the end, and the last one is the end's; no condition.
-/
import Derived.Test.YtflcpcefjliijaaRows
import Derived.Test.YtflcpcefjliijaaLexE
import Derived.Test.YtflcpcefjliijaaLexG
import Derived.Test.YtflcpcefjliijaaRolls
import Derived.Test.YtflcpcefjliijaaCov
import Derived.WalkKit
import Derived.ProofKit
import Derived.OpenShut
import Derived.ShutString
import Derived.BigQuiet
import Derived.Deep.QuietTactic
namespace Go.Proofs.Ytflcpcefjliijaa.lexerCovers
open Go.ChangeShapes Go.WideShapes Go.ChangeAt Go.RowKit
open Go.ChangeMaps (open_string shut_string)
set_option linter.unusedVariables false

theorem own : ownKnob Try.prog.godebug = none := by kernel_rfl
theorem laidOut : laidOutB Try.prog = true := by kernel_rfl

/-- what the loop has found -/
def Cv (s : ByteArray) (T : List Lx.Tok) (i a : Nat) : Prop := a ≤ s.size ∧ (i < T.length → Lx.Scan (s.data.toList.drop a) a (T.drop i)) ∧ (i = T.length → a = s.size)
theorem Cv.step {s : ByteArray} {T : List Lx.Tok} {i a : Nat} (h : Cv s T i a) (hi : i < T.length) :
    ∃ A n : Nat, (T.getD i tok0).at_ = (A : Int) ∧ a ≤ A ∧ A + n ≤ s.size ∧ (T.getD i tok0).text = s.extract A (A + n) ∧ (T.getD i tok0).text.size = n ∧ Lx.cov (A - a) (s.data.toList.drop a) false = true ∧ Cv s T (i + 1) (A + n) := by
  obtain ⟨g, t, rest, e, hg, ha, hc, hr⟩ := (h.2.1 hi).gap
  have h0 := h.1
  have hl : s.data.toList.length = s.size := by simp
  rw [List.length_drop, hl] at hg
  rw [List.drop_eq_getElem_cons hi] at e
  injection e with e1 e2
  have et : T.getD i tok0 = t := by rw [getD_eq T tok0 i hi]; exact e1
  rw [et]
  rcases hr with ⟨h1, h2, h3⟩ | ⟨h1, h2, h3⟩
  · rw [List.length_drop, hl] at h1
    refine ⟨a + g, 0, ha, by omega, by omega, ?_, by rw [h3]; rfl, by rw [Nat.add_sub_cancel_left]; exact hc, by omega, fun q => ?_, fun _ => by omega⟩
    · rw [h3, Lx.mk_extract]
      have : a + g + 0 - (a + g) = 0 := by omega
      rw [this]
      rfl
    · have := congrArg List.length e2
      rw [h2, List.length_drop] at this
      simp at this
      omega
  · rw [List.drop_drop] at h1 h2 h3
    rw [List.drop_drop] at h3
    rw [List.length_drop, hl] at h1
    generalize hn : Lx.tokLen (List.drop (a + g) s.data.toList) = n at *
    refine ⟨a + g, n, ha, by omega, by omega, ?_, ?_, by rw [Nat.add_sub_cancel_left]; exact hc, by omega, fun q => ?_, fun q => ?_⟩
    · rw [h2, Lx.mk_extract, Nat.add_sub_cancel_left]
    · rw [h2, Lx.mk_size, List.length_take, List.length_drop, hl]; omega
    · rw [e2, show a + g + n = a + (g + n) by omega]
      rw [show a + g + n = a + (g + n) by omega] at h3
      exact h3
    · obtain ⟨_, _, _, e3, _⟩ := h3.gap
      rw [← e2] at e3
      have := congrArg List.length e3
      rw [List.length_drop] at this
      simp at this
      omega

/-- one byte more -/
theorem cov_step {s : ByteArray} {j A : Nat} {b : Bool} (hj : j < A) (hA : A ≤ s.size) (h : Lx.cov (A - j) (s.data.toList.drop j) b = true) :
    ∃ b2 : Bool, Lx.cov (A - (j + 1)) (s.data.toList.drop (j + 1)) b2 = true ∧
     (((((s[j]'(by omega)).toNat : Int) == 47) = true ∧ (((s[j]'(by omega)).toNat : Int) == 10) = false ∧ (∃ h1 : j + 1 < s.size, (((s[j + 1]'h1).toNat : Int) == 47) = true) ∧ b2 = true) ∨
      ((((s[j]'(by omega)).toNat : Int) == 47) = true ∧ (((s[j]'(by omega)).toNat : Int) == 10) = false ∧ s.size ≤ j + 1 ∧ b = true ∧ b2 = true) ∨
      ((((s[j]'(by omega)).toNat : Int) == 47) = true ∧ (((s[j]'(by omega)).toNat : Int) == 10) = false ∧ (∃ h1 : j + 1 < s.size, (((s[j + 1]'h1).toNat : Int) == 47) = false) ∧ b = true ∧ b2 = true) ∨
      ((((s[j]'(by omega)).toNat : Int) == 47) = false ∧ (((s[j]'(by omega)).toNat : Int) == 10) = true ∧ b2 = false ∧ (((s[j]'(by omega)).toNat : Int) == 32) = false ∧ (((s[j]'(by omega)).toNat : Int) == 9) = false) ∨
      ((((s[j]'(by omega)).toNat : Int) == 47) = false ∧ (((s[j]'(by omega)).toNat : Int) == 10) = false ∧ b = true ∧ b2 = true) ∨
      ((((s[j]'(by omega)).toNat : Int) == 47) = false ∧ (((s[j]'(by omega)).toNat : Int) == 10) = false ∧ b = false ∧ b2 = false ∧
        ((((s[j]'(by omega)).toNat : Int) == 32) = true ∨ ((((s[j]'(by omega)).toNat : Int) == 32) = false ∧ (((s[j]'(by omega)).toNat : Int) == 9) = true) ∨ ((((s[j]'(by omega)).toNat : Int) == 32) = false ∧ (((s[j]'(by omega)).toNat : Int) == 9) = false ∧ (((s[j]'(by omega)).toNat : Int) == 13) = true)))) := by
  have hjs : j < s.size := by omega
  have hdc := Lx.drop_cons s j hjs
  rw [show A - j = (A - (j + 1)) + 1 by omega, hdc] at h
  have h' : ((Lx.inC (s[j] :: s.data.toList.drop (j + 1)) b || Lx.blankI ((s[j]).toNat : Int)) && Lx.cov (A - (j + 1)) (s.data.toList.drop (j + 1)) (Lx.inC (s[j] :: s.data.toList.drop (j + 1)) b)) = true := h
  rw [Bool.and_eq_true, Bool.or_eq_true] at h'
  obtain ⟨h1, h2⟩ := h'
  refine ⟨_, h2, ?_⟩
  clear h h2
  rw [← hdc] at h1 ⊢
  have hin : Lx.inC (s.data.toList.drop j) b = if ((s[j]).toNat : Int) = 10 then false else (b || Lx.comment (s.data.toList.drop j)) := by
    rw [hdc]; rfl
  rw [hin] at h1 ⊢
  by_cases h10 : ((s[j]).toNat : Int) = 10
  · rw [if_pos h10] at h1 ⊢
    have e : ∀ x y : Int, x ≠ y → (x == y) = false := fun x y q => beq_eq_false_iff_ne.2 q
    refine .inr (.inr (.inr (.inl ⟨by rw [h10]; rfl, by rw [h10]; rfl, rfl, by rw [h10]; rfl, by rw [h10]; rfl⟩)))
  · rw [if_neg h10] at h1 ⊢
    have n10 : (((s[j]).toNat : Int) == 10) = false := beq_eq_false_iff_ne.2 h10
    cases hc : Lx.comment (s.data.toList.drop j)
    · rw [hc, Bool.or_false] at h1
      rw [Bool.or_false]
      rcases comm_no hjs hc with c1 | ⟨c1, c2⟩ | ⟨c1, h3, c2⟩
      · cases b
        · have hb : Lx.blankI ((s[j]).toNat : Int) = true := by
            rcases h1 with q | q
            · exact absurd q (by simp)
            · exact q
          refine .inr (.inr (.inr (.inr (.inr ⟨c1, n10, rfl, rfl, ?_⟩))))
          rcases blank_yes hb with q | ⟨q1, q2⟩ | ⟨q1, q2, q3⟩ | ⟨q1, q2, q3, q4⟩
          · exact .inl q
          · exact .inr (.inl ⟨q1, q2⟩)
          · rw [n10] at q3; exact absurd q3 (by simp)
          · exact .inr (.inr ⟨q1, q2, q4⟩)
        · exact .inr (.inr (.inr (.inr (.inl ⟨c1, n10, rfl, rfl⟩))))
      all_goals
        have hb : b = true := by
          rcases h1 with q | q
          · exact q
          · rw [beq_iff_eq.1 c1] at q; exact absurd q (by decide)
        subst hb
      · exact .inr (.inl ⟨c1, n10, c2, rfl, rfl⟩)
      · exact .inr (.inr (.inl ⟨c1, n10, ⟨h3, c2⟩, rfl, rfl⟩))
    · rw [Bool.or_true]
      obtain ⟨c1, h3, c2⟩ := comm_yes hjs hc
      exact .inl ⟨c1, n10, ⟨h3, c2⟩, rfl⟩

set_option maxHeartbeats 4000000 in
set_option maxRecDepth 100000 in
theorem walk (s0 : ByteArray) (p : Option Addr) (n cap : Nat) (w : World) (hs : s0.size ≤ maxLen) (hn : n ≤ maxLen) (hr : Rolls w p n) (hb : ∀ b o, p = some ⟨b, o, none⟩ → b < w.heap.size) :
    Calls Try.prog 7 #[.string s0, .slice p n cap] w fun e w' => e = .returned (.bool true) ∧ Below w.heap.size w w' := by
  by_cases h1 : 400 < n
  · clear hr hb
    go_enter Try.func7, Try.ntmps7
    go_wp2_with fail
    refine (light_no p n cap _ h1 hn).mono ?_
    rintro e w1 ⟨rfl, rfl⟩
    go_wp2_with fail
    refine (awake02_any _).mono ?_
    rintro e w1 ⟨rfl, hb⟩
    have HB := Lib.hid hb
    clear hb
    go_wp2_with fail
    go_ret
    exact ⟨rfl, HB.out⟩
  · by_cases h2 : 2000 < s0.size
    · have h3 : (2000 : Int) < (s0.size : Int) := by omega
      clear hr hb
      go_enter Try.func7, Try.ntmps7
      go_wp2_with fail
      refine (light_yes p n cap _ (by omega)).mono ?_
      rintro e w1 ⟨rfl, rfl⟩
      go_wp2_with fail
      refine (awake02_any _).mono ?_
      rintro e w1 ⟨rfl, hb⟩
      have HB := Lib.hid hb
      clear hb
      go_wp2_with fail
      go_ret
      exact ⟨rfl, HB.out⟩
    · have h3 : ¬ (2000 : Int) < (s0.size : Int) := by omega
      have HDW := Lib.hid (rolled (cap := cap) (show n ≤ 400 by omega) hr hb)
      clear hr hb
      go_enter Try.func7, Try.ntmps7
      go_wp2_with fail
      refine (light_yes p n cap _ (by omega)).mono ?_
      rintro e w1 ⟨rfl, rfl⟩
      go_wp2_with fail
      refine (roll_any p n cap _).mono ?_
      rintro e w2 ⟨rfl, rfl⟩
      go_wp2_with fail
      refine (text_any ⟨w1.heap.size, p, n, cap⟩ _ HDW.out.1 HDW.out.2).mono ?_
      rintro e w3 ⟨tx, rfl, htx, hfd⟩
      have HB3 : Hid (Below w1.heap.size w1 w3) := (below_box w1 _).trans (hfd.base _ (Nat.le_refl _) (below_box w1 _).size)
      clear hfd HDW
      go_wp2_with fail
      have hss : (s0 ++ tx).size ≤ 14496 := by rw [ByteArray.size_append]; omega
      clear h3 h2 h1 hs hn htx
      generalize s0 ++ tx = s at *
      refine (tokens_any s _ (by omega)).mono ?_
      rintro e w5 ⟨v5, rfl, hv5, hb⟩
      have htl : tokList s = Lx.toks s := by unfold tokList; rw [if_pos (by omega)]
      rw [htl] at hv5
      have hsc := Lx.toks_scan s
      have hlen : (Lx.toks s).length ≤ 14497 := by have := hsc.bounds.1; simp at this; omega
      generalize hT : Lx.toks s = T at *
      obtain ⟨U, tl, hU, hk0⟩ := hsc.end_
      have HCV : Hid (Cv s T 0 0) := ⟨Nat.zero_le _, fun _ => by simpa using hsc, fun q => by
        rw [hU] at q; simp at q⟩
      have HB5 := Lib.hid (bnext HB3.out hb)
      obtain ⟨p1, cap1, rfl, c1, c1m, l1⟩ := hv5
      have hTm : T.length = U.length + 1 := by rw [hU]; simp
      obtain ⟨b1, off1, rfl, hcells1⟩ := l1 (by omega)
      have hlast : (T.getD U.length tok0).kind = 0 := by rw [hU]; simp [List.getD, hk0]
      generalize U.length = m at *
      have HC := Lib.hid hcells1
      have HLAST := Lib.hid hlast
      generalize hk : T.length = k at *
      have HK := Lib.hid hk
      have HKM := Lib.hid hTm
      clear hcells1 hlast l1 hb htl hT hsc hU hk0 HB3 hk hTm U tl
      have hkz : ((k : Int) == 0) = false := by have := HKM.out; rw [beq_eq_false_iff_ne]; omega
      go_wp2_with fail
      try simp only [hkz]
      clear hkz
      go_loopw [4, 6, 7, 8, 9] (fun _ a i _ _ wr => ∃ at_ j : Nat, j ≤ k ∧ a = .int .i64 at_ ∧ i = .int .i64 j ∧ Hid (Cv s T j at_) ∧ Hid (Below w5.heap.size w5 wr)) (fun _ _ i _ _ _ => k - (intOf i).toNat)
      case atStart => exact ⟨0, 0, Nat.zero_le _, rfl, rfl, HCV.out, Below.refl _ _⟩
      case round =>
        obtain ⟨at_, j, hj, rfl, rfl, hcv, hb⟩ := hrel
        by_cases hlt : j < k
        · have hjl : j < T.length := by rw [HK.out]; exact hlt
          obtain ⟨A, n2, hA, haA, hAn, htx, htn, hcov, hcv2⟩ := hcv.out.step hjl
          obtain ⟨x0, x1, x2⟩ := tok_cells (HC.out.below hb.out) j hjl
          rw [hA] at x2
          have HCV2 := Lib.hid hcv2
          have HCOV := Lib.hid hcov
          have HTN := Lib.hid htn
          have HXT := Lib.hid htx
          have HHA := Lib.hid hA
          generalize htt : (T.getD j tok0).text = tt at *
          have HTT := Lib.hid htt
          have hi1 : (j : Int) < (k : Int) := by omega
          generalize hE : A + n2 = E at *
          have g1 : ¬ (A : Int) < (at_ : Int) := by omega
          have hwr : IntKind.i64.wrap ((A : Int) + (tt.size : Int)) = (E : Int) := by rw [HTN.out, IntWalk.i64_in _ (by omega)]; omega
          have g2 : ¬ (s.size : Int) < (E : Int) := by omega
          have g3 : (A : Int) ≤ (E : Int) := by omega
          have g4 : decide ((A : Int) < (at_ : Int)) = false := decide_eq_false g1
          have g5 : decide ((s.size : Int) < (E : Int)) = false := decide_eq_false g2
          have hext : s.extract A E = tt := HXT.out.symm
          have hA0 : A ≤ s.size := by omega
          have HE := Lib.hid hE
          clear x0 hcv hcv2 hcov htn htx hA htt hE HXT
          go_wp2_with fail
          go_quiet (fail)
          go_wp2_with fail
          have g6 : ¬ A < at_ := by omega
          have g7 : ¬ s.size < E := by omega
          simp only [g6, g7, decide_false, Bool.or_false]
          clear g6 g7 g1 g2 g3 g4 g5 hwr hext
          go_loopw [4, 6, 8, 9] (fun _ a b _ wr => ∃ (q : Nat) (bb : Bool), at_ ≤ q ∧ q ≤ A ∧ a = .int .i64 q ∧ b = .bool bb ∧ Hid (Lx.cov (A - q) (s.data.toList.drop q) bb = true) ∧ Hid (Below w5.heap.size w5 wr)) (fun _ a _ _ _ => A - (intOf a).toNat)
          case atStart => exact ⟨at_, false, Nat.le_refl _, haA, rfl, rfl, HCOV.out, below_drewN hb.out _⟩
          case round =>
            obtain ⟨q, bb, hq0, hq, rfl, rfl, hcv, hb2⟩ := hrel
            obtain ⟨y0, y1, y2⟩ := tok_cells (HC.out.below hb2.out) j hjl
            rw [HHA.out] at y2
            rw [HTT.out] at y1
            by_cases hqA : q < A
            · have hqi : (q : Int) < (A : Int) := by omega
              have hqs : q < s.size := by omega
              obtain ⟨b2, hcv2, hcase⟩ := cov_step hqA hA0 hcv.out
              have HC2 := Lib.hid hcv2
              clear hcv hcv2
              have hqs1 : (q : Int) < (s.size : Int) := by omega
              rcases hcase with ⟨e1, e2, ⟨h1, e3⟩, rfl⟩ | ⟨e1, e2, h1, rfl, rfl⟩ | ⟨e1, e2, ⟨h1, e3⟩, rfl, rfl⟩ | ⟨e1, e2, rfl, e3, e4⟩ | ⟨e1, e2, rfl, rfl⟩ | ⟨e1, e2, rfl, rfl, e3 | ⟨e3, e4⟩ | ⟨e3, e4, e5⟩⟩
              · have h1' : (q : Int) + 1 < (s.size : Int) := by omega
                go_wp2_with fail
                go_roundw
                case rel => exact ⟨q + 1, _, by omega, by omega, by go_num, rfl, HC2.out, by first | exact hb2.out | exact below_drewN hb2.out _⟩
                case measure => simp [intOf]; omega
              · have h1' : ¬ (q : Int) + 1 < (s.size : Int) := by omega
                go_wp2_with fail
                go_roundw
                case rel => exact ⟨q + 1, _, by omega, by omega, by go_num, rfl, HC2.out, by first | exact hb2.out | exact below_drewN hb2.out _⟩
                case measure => simp [intOf]; omega
              · have h1' : (q : Int) + 1 < (s.size : Int) := by omega
                go_wp2_with fail
                go_roundw
                case rel => exact ⟨q + 1, _, by omega, by omega, by go_num, rfl, HC2.out, by first | exact hb2.out | exact below_drewN hb2.out _⟩
                case measure => simp [intOf]; omega
              · have f10 : (s[q]'hqs).toNat = 10 := by have := beq_iff_eq.1 e2; omega
                go_wp2_with fail
                go_roundw
                case rel => exact ⟨q + 1, _, by omega, by omega, by go_num, rfl, HC2.out, by first | exact hb2.out | exact below_drewN hb2.out _⟩
                case measure => simp [intOf]; omega
              · skip
                go_wp2_with fail
                go_roundw
                case rel => exact ⟨q + 1, _, by omega, by omega, by go_num, rfl, HC2.out, by first | exact hb2.out | exact below_drewN hb2.out _⟩
                case measure => simp [intOf]; omega
              · have f32 : (s[q]'hqs).toNat = 32 := by have := beq_iff_eq.1 e3; omega
                go_wp2_with fail
                go_roundw
                case rel => exact ⟨q + 1, _, by omega, by omega, by go_num, rfl, HC2.out, by first | exact hb2.out | exact below_drewN hb2.out _⟩
                case measure => simp [intOf]; omega
              · have f9 : (s[q]'hqs).toNat = 9 := by have := beq_iff_eq.1 e4; omega
                go_wp2_with fail
                go_roundw
                case rel => exact ⟨q + 1, _, by omega, by omega, by go_num, rfl, HC2.out, by first | exact hb2.out | exact below_drewN hb2.out _⟩
                case measure => simp [intOf]; omega
              · have f13 : (s[q]'hqs).toNat = 13 := by have := beq_iff_eq.1 e5; omega
                go_wp2_with fail
                go_roundw
                case rel => exact ⟨q + 1, _, by omega, by omega, by go_num, rfl, HC2.out, by first | exact hb2.out | exact below_drewN hb2.out _⟩
                case measure => simp [intOf]; omega
            · have hqe : q = A := by omega
              subst hqe
              have HB2 := Lib.hid hb2.out
              clear hb2 hcv
              have hwr : IntKind.i64.wrap ((q : Int) + (tt.size : Int)) = (E : Int) := by rw [HTN.out, IntWalk.i64_in _ (by have := HE.out; omega)]; have := HE.out; omega
              go_wp2_with fail
              go_roundw
              case rel => exact ⟨E, j + 1, by omega, by go_num, by go_num, HCV2.out, HB2.out⟩
              case measure => simp [intOf]; omega
        · have hjk : j = k := by omega
          subst hjk
          have hat : at_ = s.size := hcv.out.2.2 HK.out.symm
          subst hat
          clear hcv hlt hj
          have HBR := Lib.hid hb.out
          clear hb
          go_wp2_with fail
          refine (awake02_any _).mono ?_
          rintro e w6 ⟨rfl, hb⟩
          have HB6 := Lib.hid (HBR.out.trans (hb.mono HBR.out.size))
          clear hb HBR
          have hmT : m < T.length := by have := HKM.out; have := HK.out; omega
          obtain ⟨z0, z1, z2⟩ := tok_cells (HC.out.below HB6.out) m hmT
          rw [HLAST.out] at z0
          have hsub : IntKind.i64.wrap ((j : Int) - 1) = (m : Int) := by rw [IntWalk.i64_in _ (by have := HKM.out; omega)]; have := HKM.out; omega
          have hmk : (m : Int) < (j : Int) := by have := HKM.out; omega
          clear z1 z2 hmT
          go_wp2_with fail
          go_ret
          exact ⟨rfl, bnext HB5.out HB6.out⟩

set_option maxRecDepth 100000 in
theorem lifted (os : Os) (started : os.Started) (H : Type) (enc : TypeId × Value → H) :
    ReturnsInHanded {} Try.checked os 7 .any (Rows.lexerCoversSpec.pre6 enc Try.prog Try.f7 Rows.lexerCoversRow.domain false) (Rows.lexerCoversSpec.post enc Try.prog Try.f7 false true false false) := by
  refine returnsInHanded_of_change (C := Try.checked) own started (by kernel_rfl) Try.func7
    (ChangeSpec.witness6 (enc := enc) (C := Try.checked) false ⟨#[], #[.string ByteArray.empty, .slice none 0 0], []⟩ 8 (by kernel_rfl) (by kernel_rfl) (by kernel_rfl) (by kernel_rfl)) ?_
  intro W base args ds gs before hval0 hW hcnd _
  have hval : ∀ (j : Nat) t v, Try.f7.params[j]? = some t → args[j]? = some v → Value.okWide Try.prog W .any base t v := hval0
  have hW' := hW
  obtain ⟨p, q, hA0, hV, rfl, hfz, hnd⟩ := hW
  have hA : DataW.TrodAll enc Try.prog W 0 (fun _ => true) true Try.f7.params.toList args.toList ds p := hA0
  rw [Try.params7] at hA hval
  obtain ⟨v0, vs0, d0, ds0, p0, q0, hargs, rfl, rfl, h0, r0⟩ := trodAll_cons hA
  obtain ⟨v1, vs1, d1, ds1, p1, q1, rfl, rfl, rfl, h1, r1⟩ := trodAll_cons r0
  obtain ⟨rfl, rfl, rfl⟩ := trodAll_nil r1
  obtain rfl : args = #[v0, v1] := by cases args; simp_all
  obtain ⟨rfl, rfl⟩ := trodVars_none hV
  have k0 := h0
  have lt0 : ∀ x ∈ p0, x.block < W.heap.size := by obtain ⟨m, hm⟩ := k0; exact DataW.trod_lt m _ _ _ hm
  have k1 := h1
  have lt1 : ∀ x ∈ p1, x.block < W.heap.size := by obtain ⟨m, hm⟩ := k1; exact DataW.trod_lt m _ _ _ hm
  obtain ⟨s, rfl, _, _, ws⟩ := open_string Try.underlying9 (hval 0 9 v0 rfl rfl) h0
  obtain ⟨p', n, cap, rfl, hn, hro, hin⟩ := open_rolls (hval 1 22 v1 rfl rfl) h1
  clear hA0 hval0
  refine (walk s p' n cap W ws hn hro hin).mono fun e W' ⟨he, bel⟩ => ?_
  subst he
  exact ⟨_, rfl, _, _, _, [], _, [], hW', trodAll_mk1 (shut_bool Try.underlying4 _), (trodAll_cons_mk (Below.trod laidOut (by kernel_rfl) (of_decide_eq_true (by kernel_rfl)) k0 bel lt0) (trodAll_cons_mk (Below.trod laidOut (by kernel_rfl) (of_decide_eq_true (by kernel_rfl)) k1 bel lt1) trodAll_mk0)), rfl, bel.frame _, fun h => by cases h⟩

theorem proved : Rows.LexerCoversSaid :=
  OpenClaim.holds_of_wide 7 Try.f7 rfl rfl rfl rfl rfl rfl rfl ⟨rfl, rfl, rfl, rfl, rfl⟩ rfl rfl rfl rfl rfl (by kernel_rfl) Try.func7 (by kernel_rfl)
    (of_decide_eq_true (by kernel_rfl)) (by unfold Func.isWrapper; first | (rw [if_pos (by decide +kernel)]; kernel_rfl) | (rw [if_neg (by decide +kernel)]; exact ⟨rfl, rfl⟩))
    (fun os started H enc _ => lifted os started H enc)
end Go.Proofs.Ytflcpcefjliijaa.lexerCovers
