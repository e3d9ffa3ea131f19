/-
  PROVED: for any text and any list of tokens that together hold at most 1048576 values and letters, Join returns what the document's reference returns, and the tokens of a Join have the Kinds and the Texts of the tokens of the text; condition: this bound (a Builder that would pass 2^48 bytes ends the call).
-/
import Derived.Test.YteilkhenahkljaaRows
import Derived.Test.YteilkhenahkljaaLexG
import Derived.Test.YteilkhenahkljaaLexJ
import Derived.Test.YteilkhenahkljaaOpenS
import Derived.WalkKit
import Derived.ProofKit
import Derived.OpenShut
import Derived.JoinedCond
import Derived.ShutString
import Derived.Deep.QuietTactic
import Derived.BigQuiet
namespace Go.Proofs.Yteilkhenahkljaa.lexerJoins
open Go.ChangeShapes Go.WideShapes Go.ChangeAt Go.RowKit Go.Joins
open Go.ChangeMaps (open_string shut_string)
set_option linter.unusedVariables false

theorem own : ownKnob Try.prog.godebug = none := by kernel_rfl
theorem laidOut : laidOutB Try.prog = true := by kernel_rfl

theorem kt_at {U T : List Lx.Tok} (h : U.map Lx.kt = T.map Lx.kt) (j : Nat) (hj : j < T.length) : (U.getD j tok0).kind = (T.getD j tok0).kind ∧ (U.getD j tok0).text = (T.getD j tok0).text := by
  have hl : U.length = T.length := by have := congrArg List.length h; simpa using this
  rw [getD_eq U tok0 j (by omega), getD_eq T tok0 j hj]
  have e := congrArg (fun l => l[j]?) h
  simp only [List.getElem?_map, List.getElem?_eq_getElem hj, List.getElem?_eq_getElem (show j < U.length by omega), Option.map_some, Option.some.injEq, Lx.kt, Prod.mk.injEq] at e
  exact e

set_option maxHeartbeats 2000000 in
set_option maxRecDepth 100000 in
theorem walk (s : ByteArray) (p : Option Addr) (n cap : Nat) (L : List Lx.Tok) (w : World) (hs : s.size ≤ 4611686018427387904) (hl : SlIs tokEnc w (.slice p n cap) L) (hj : (joinL L).length ≤ 4000000) (hn : n ≤ 4611686018427387904) :
    Calls Try.prog 9 #[.string s, .slice p n cap] w fun e w' => e = .returned (.bool true) ∧ Below w.heap.size w w' := by
  have hln := hl.lies.1
  by_cases hbig : 2000 < s.size ∨ 500 < n
  · by_cases h1 : 2000 < s.size
    · go_enter Try.func9, Try.ntmps9
      go_wp2_with fail
      refine (awake02_any _).mono ?_
      rintro e w1 ⟨rfl, hb⟩
      have HB := Lib.hid hb
      clear hb
      go_wp2_with fail
      go_ret
      exact ⟨rfl, HB.out⟩
    · have h2 : 500 < n := by omega
      have h1' : s.size ≤ 2000 := by omega
      clear hbig h1 hln
      go_enter Try.func9, Try.ntmps9
      go_wp2_with fail
      refine (awake02_any _).mono ?_
      rintro e w1 ⟨rfl, hb⟩
      have HB := Lib.hid hb
      clear hb
      go_wp2_with fail
      go_ret
      exact ⟨rfl, HB.out⟩
  · have h1 : s.size ≤ 2000 := by omega
    have h2 : n ≤ 500 := by omega
    have hsc := Lx.toks_scan s
    have htl : tokList s = Lx.toks s := by unfold tokList; rw [if_pos (by omega)]
    have hlen : (Lx.toks s).length ≤ 2001 := by have := hsc.bounds.1; simp at this; omega
    have hjl : (joinL (Lx.toks s)).length ≤ 4000 := by have := hsc.joinLen; simp at this; exact Nat.le_trans this (by omega)
    have hjs : (Lx.mk (joinL (Lx.toks s))).size ≤ 4000 := by rw [Lx.mk_size]; exact hjl
    have htl2 : tokList (Lx.mk (joinL (Lx.toks s))) = Lx.toks (Lx.mk (joinL (Lx.toks s))) := by unfold tokList; rw [if_pos (by omega)]
    have hkt : (Lx.toks (Lx.mk (joinL (Lx.toks s)))).map Lx.kt = (Lx.toks s).map Lx.kt := by
      obtain ⟨U, hU, hm⟩ := hsc.again 0
      have := Lx.toks_scan (Lx.mk (joinL (Lx.toks s)))
      rw [Lx.mk_data] at this
      rw [this.det hU]
      exact hm
    have hul : (Lx.toks (Lx.mk (joinL (Lx.toks s)))).length = (Lx.toks s).length := by have := congrArg List.length hkt; simpa using this
    generalize hT : Lx.toks s = T at *
    generalize hJ : Lx.mk (joinL T) = J at *
    generalize hU : Lx.toks J = U at *
    have HTL := Lib.hid htl
    have HTL2 := Lib.hid htl2
    have HKT := Lib.hid hkt
    have HJ := Lib.hid hJ
    have HL := Lib.hid hl
    have HLN := Lib.hid hln
    have HUL := Lib.hid hul
    clear hbig hsc htl hT htl2 hkt hJ hU hl hln hul
    go_enter Try.func9, Try.ntmps9
    go_wp2_with fail
    refine (tokens_any s _ hs).mono ?_
    rintro e w1 ⟨v1, rfl, hv1, hb1⟩
    rw [HTL.out] at hv1
    have HV1 := Lib.hid hv1
    have HB1 := Lib.hid hb1
    clear hv1 hb1
    go_wp2_with fail
    refine (join_any v1 T _ (by omega) (by omega) HV1.out).mono ?_
    rintro e w2 ⟨rfl, hb2⟩
    rw [HJ.out]
    have HV2 := Lib.hid (HV1.out.below hb2)
    have HB2 := Lib.hid (bnext HB1.out hb2)
    clear hb2
    go_wp2_with fail
    refine (tokens_any J _ (by omega)).mono ?_
    rintro e w3 ⟨v3, rfl, hv3, hb3⟩
    rw [HTL2.out] at hv3
    have HV3 := Lib.hid (HV2.out.below hb3)
    have HU3 := Lib.hid hv3
    have HB3 := Lib.hid (bnext HB2.out hb3)
    clear hv3 hb3
    go_wp2_with fail
    refine (awake02_any _).mono ?_
    rintro e w4 ⟨rfl, hb4⟩
    have HV4 := Lib.hid (HV3.out.below hb4)
    have HU4 := Lib.hid (HU3.out.below hb4)
    have HB4 := Lib.hid (bnext HB3.out hb4)
    clear hb4
    go_wp2_with fail
    refine (join_any _ L _ (by omega) (by have := HLN.out; omega) (HL.out.below HB4.out)).mono ?_
    rintro e w5 ⟨rfl, hb5⟩
    have HV5 := Lib.hid (HV4.out.below hb5)
    have HU5 := Lib.hid (HU4.out.below hb5)
    have HB5 := Lib.hid (bnext HB4.out hb5)
    clear hb5
    go_wp2_with fail
    refine (refJoin_any _ L _ (by omega) (by have := HLN.out; omega) (HL.out.below HB5.out)).mono ?_
    rintro e w6 ⟨rfl, rfl⟩
    obtain ⟨p1, cap1, rfl, c1, c1m, l1⟩ := HV5.out
    obtain ⟨p2, cap2, rfl, c2, c2m, l2⟩ := HU5.out
    rw [HUL.out] at c2 l2 ⊢
    generalize hk : T.length = k at *
    have HK := Lib.hid hk
    have L1 := Lib.hid l1
    have L2 := Lib.hid l2
    clear hk l1 l2
    go_wp2_with fail
    go_loopw [7] (fun i wr => ∃ j : Nat, j ≤ k ∧ i = .int .i64 j ∧ Hid (Below w5.heap.size w5 wr)) (fun i _ => k - (intOf i).toNat)
    case atStart => exact ⟨0, Nat.zero_le _, rfl, Below.refl _ _⟩
    case round =>
      obtain ⟨j, hj, rfl, hb⟩ := hrel
      by_cases hlt : j < k
      · obtain ⟨b1, off1, rfl, hcells1⟩ := L1.out (by omega)
        obtain ⟨b2, off2, rfl, hcells2⟩ := L2.out (by omega)
        have hjl : j < T.length := by rw [HK.out]; exact hlt
        have hju : j < U.length := by rw [HUL.out]; exact hlt
        obtain ⟨x0, x1, x2⟩ := tok_cells (hcells1.below hb.out) j hjl
        obtain ⟨y0, y1, y2⟩ := tok_cells (hcells2.below hb.out) j hju
        obtain ⟨e0, e1⟩ := kt_at HKT.out j hjl
        rw [e0] at y0
        rw [e1] at y1
        have hi1 : (j : Int) < (k : Int) := by omega
        clear y2 e0 e1
        generalize T.getD j tok0 = x at *
        obtain ⟨kd, t, a⟩ := x
        clear hcells1 hcells2 hjl hju
        go_wp2_with fail
        go_quiet (fail)
        go_wp2_with fail
        go_roundw
        case rel => exact ⟨j + 1, by omega, by go_num, below_drewN hb.out _⟩
        case measure => simp [intOf]; omega
      · go_wp2_with fail
        go_ret
        exact ⟨rfl, bnext HB5.out hb.out⟩

instance : Inhabited Lx.Tok := ⟨tok0⟩
theorem cellsTok : Try.prog.cellsOf 61 = tokEnc.size := by kernel_rfl

/-- a token's text is counted in its reading -/
def Bulk {H : Type} (x : Lx.Tok) (d : DataW H) : Prop := x.text.size + 1 ≤ Rows.uptoBulk d

set_option maxRecDepth 100000 in
theorem tok_dec {H : Type} {enc : TypeId × Value → H} {w : World} {base : Nat} {spare : Nat → Bool} {held : Bool} (n : Nat) (cs : List Value) (y : DataW H × List MemPlace) (hl : cs.length = tokEnc.size) (h : DataW.trod enc Try.prog w base spare held n 61 cs = some y) :
    ∃ x : Lx.Tok, cs = tokEnc.cells x ∧ Bulk x y.1 := by
  obtain ⟨xs, k, hk, rfl, _, hxl, hf⟩ := DataW.trod_struct Try.underlying61 h
  match xs, hxl, cs, hl with
  | [y0, y1, y2], _, [v0, v1, v2], _ =>
    have g0 := hf 0 _ rfl
    have g1 := hf 1 _ rfl
    have g2 := hf 2 _ rfl
    have c3 : Try.prog.cellsOf 3 = 1 := by kernel_rfl
    have c9 : Try.prog.cellsOf 9 = 1 := by kernel_rfl
    simp [c3, c9] at g0 g1 g2
    obtain ⟨kd, e0, _, _⟩ := DataW.trod_int Try.underlying3 g0
    obtain ⟨s1, e1, z1, _⟩ := DataW.trod_string Try.underlying9 g1
    obtain ⟨a2, e2, _, _⟩ := DataW.trod_int Try.underlying3 g2
    simp only [List.cons.injEq, and_true] at e0 e1 e2
    subst e0; subst e1; subst e2
    refine ⟨⟨kd, s1, a2⟩, rfl, ?_⟩
    unfold Bulk
    have e : s1.data.toList.length = s1.size := by simp
    simp only [List.map_cons, List.map_nil, Rows.uptoBulk, Rows.uptoBulkAll, z1]
    omega

theorem bulk_append {H : Type} (l r : List (DataW H)) : Rows.uptoBulkAll (l ++ r) = Rows.uptoBulkAll l + Rows.uptoBulkAll r := by
  induction l with
  | nil => simp [Rows.uptoBulkAll]
  | cons x l ih => simp only [List.cons_append, Rows.uptoBulkAll, ih]; omega
theorem joined_le {H : Type} (L : List Lx.Tok) (D : Nat → DataW H) (h : ∀ i (hi : i < L.length), Bulk L[i] (D i)) : ∀ j, j ≤ L.length → (joinL (L.take j)).length ≤ Rows.uptoBulkAll ((List.range j).map D) := by
  intro j
  induction j with
  | zero => intro _; simp [joinL]
  | succ j ih =>
    intro hj
    have h1 := ih (by omega)
    have h2 := h j (by omega)
    rw [joinL_take L j (by omega), getD_eq L tok0 j (by omega), List.range_succ, List.map_append, bulk_append, List.length_append]
    unfold Bulk at h2
    simp only [List.map_cons, List.map_nil, Rows.uptoBulkAll]
    split
    · simp; omega
    · simp only [List.length_append, List.length_cons, List.length_nil, Lx.size_data]; omega

theorem count_le {H : Type} (L : List Lx.Tok) (D : Nat → DataW H) (h : ∀ i (hi : i < L.length), Bulk L[i] (D i)) : ∀ j, j ≤ L.length → j ≤ Rows.uptoBulkAll ((List.range j).map D) := by
  intro j
  induction j with
  | zero => intro _; omega
  | succ j ih =>
    intro hj
    have h1 := ih (by omega)
    have h2 := h j (by omega)
    rw [List.range_succ, List.map_append, bulk_append]
    unfold Bulk at h2
    simp only [List.map_cons, List.map_nil, Rows.uptoBulkAll]
    omega
set_option maxRecDepth 100000 in
theorem open_toks {H : Type} {enc : TypeId × Value → H} {W : World} {v : Value} {d : DataW H} {p : List MemPlace} {r : Reach} {b0 : Nat} (hv : Value.okWide Try.prog W r b0 53 v) (h : DataW.Trod enc Try.prog W 0 (fun _ => true) true 53 v d p) :
    ∃ (L : List Lx.Tok) (p' : Option Addr) (cap : Nat), v = .slice p' L.length cap ∧ SlIs tokEnc W (.slice p' L.length cap) L ∧ (joinL L).length ≤ Rows.uptoBulk d ∧ L.length ≤ Rows.uptoBulk d := by
  obtain ⟨a0, len, cap, rfl⟩ := okWide_slice Try.underlying53 hv
  obtain ⟨fuel, hf⟩ := h
  obtain ⟨L, p', cap', hcs, hsl, _, hd⟩ := open_structs tokEnc Bulk Try.underlying53 cellsTok (fun n cs y hl h => tok_dec n cs y hl h) hf
  simp only [Value.cells, List.cons.injEq, and_true] at hcs
  have hcs' : Value.slice a0 len cap = .slice p' L.length cap' := by simpa [Value.cells] using hcs
  rcases hd with ⟨rfl, _⟩ | ⟨D, sp, e, hb⟩
  · exact ⟨[], p', cap', hcs', hsl, by simp [joinL], by simp⟩
  · simp only at e
    refine ⟨L, p', cap', hcs', hsl, ?_⟩
    rw [e]
    have h1 := joined_le L D hb L.length (Nat.le_refl _)
    have h2 := count_le L D hb L.length (Nat.le_refl _)
    rw [List.take_length] at h1
    simp only [Rows.uptoBulk]
    omega

set_option maxRecDepth 100000 in
theorem contract (H : Type) (enc : TypeId × Value → H) (W : World) (base : Nat) (args : Array Value) (ds gs : List (DataW H)) (before : List MemPlace)
    (hval : ∀ (j : Nat) t v, Try.f9.params[j]? = some t → args[j]? = some v → Value.okWide Try.prog W .any base t v)
    (hW : DataW.Whole enc Try.prog Try.f9.params.toList Rows.lexerJoinsSpec.vars false W args.toList ds gs before) (hk : Rows.uptoSmall H (ds ++ gs) = true) :
    Calls Try.prog 9 args W fun e W' => ∃ v, e = .returned v ∧ Rows.lexerJoinsSpec.post enc Try.prog Try.f9 false true false false W args v W' := by
  have hW' := hW
  obtain ⟨p, q, hA0, hV, rfl, hfz, hnd⟩ := hW
  have hA : DataW.TrodAll enc Try.prog W 0 (fun _ => true) true Try.f9.params.toList args.toList ds p := hA0
  obtain ⟨rfl, rfl⟩ := trodVars_none hV
  rw [Try.params9] at hA hval
  obtain ⟨v0, vs0, d0, ds0, p0, q0, hargs, rfl, rfl, h0, r0⟩ := trodAll_cons hA
  obtain ⟨v1, vs1, d1, ds1, p1, q1, rfl, rfl, rfl, h1, r1⟩ := trodAll_cons r0
  obtain ⟨rfl, rfl, rfl⟩ := trodAll_nil r1
  obtain rfl : args = #[v0, v1] := by cases args; simp_all
  have k0 := h0
  have lt0 : ∀ x ∈ p0, x.block < W.heap.size := by obtain ⟨m, hm⟩ := k0; exact DataW.trod_lt m _ _ _ hm
  have k1 := h1
  have lt1 : ∀ x ∈ p1, x.block < W.heap.size := by obtain ⟨m, hm⟩ := k1; exact DataW.trod_lt m _ _ _ hm
  obtain ⟨s, rfl, rfl, rfl, hmax⟩ := open_string Try.underlying9 (hval 0 9 v0 rfl rfl) h0
  obtain ⟨L, p', cap, rfl, hsl, hjl, hln⟩ := open_toks (hval 1 53 v1 rfl rfl) h1
  have hb : Rows.uptoBulkAll ([DataW.lit (H := H) (.string s.data.toList), d1] ++ []) ≤ 1048576 := of_decide_eq_true hk
  simp only [List.append_nil, Rows.uptoBulkAll, Rows.uptoBulk] at hb
  have e : s.data.toList.length = s.size := by simp
  clear hA0
  have hn : L.length ≤ 4611686018427387904 := by omega
  refine (walk s p' L.length cap L W (by omega) hsl (by omega) hn).mono fun e W' ⟨he, bel⟩ => ?_
  subst he
  exact ⟨_, rfl, _, _, _, [], _, [], hW', trodAll_mk1 (shut_bool Try.underlying4 _), (trodAll_cons_mk (Below.trod laidOut (by kernel_rfl) (of_decide_eq_true (by kernel_rfl)) k0 bel lt0) (trodAll_cons_mk (Below.trod laidOut (by kernel_rfl) (of_decide_eq_true (by kernel_rfl)) k1 bel lt1) trodAll_mk0)), rfl, bel.frame _, fun h => by cases h⟩

set_option maxRecDepth 100000 in
theorem lifted (os : Os) (started : os.Started) (H : Type) (enc : TypeId × Value → H) (F : Stop.Interp) :
    ReturnsInHanded {} Try.checked os 9 .any ((Rows.OpenSpec.upto Rows.lexerJoinsSpec).pre6 enc Try.prog Try.f9 Rows.lexerJoinsUptoRow.domain false) (((Rows.OpenSpec.upto Rows.lexerJoinsSpec).at F).post enc Try.prog Try.f9 false true false false) := by
  refine returnsInHanded_of_cond (C := Try.checked) (s := Rows.OpenSpec.upto Rows.lexerJoinsSpec) (k := Rows.uptoSmall) rfl own started (by kernel_rfl) Try.func9
    (OpenSpec.witness (enc := enc) (C := Try.checked) (s := Rows.OpenSpec.upto Rows.lexerJoinsSpec) (k := Rows.uptoSmall) rfl false ⟨#[], #[.string .empty, .slice none 0 0], []⟩ 8 (by kernel_rfl) (by kernel_rfl) (by kernel_rfl)
      (x := ([.lit (.string []), .nil], [], [])) (by kernel_rfl) rfl (by kernel_rfl)) ?_
  intro W base args ds gs before hval hW _ hk _
  exact contract H enc W base args ds gs before hval hW hk

theorem proved : Rows.LexerJoinsUptoSaid :=
  OpenClaim.holds_of_cond 9 Try.f9 rfl rfl rfl rfl rfl rfl rfl ⟨rfl, rfl, rfl, rfl, rfl⟩ rfl rfl rfl rfl rfl (by kernel_rfl) Try.func9 (by kernel_rfl)
    (of_decide_eq_true (by kernel_rfl)) (by unfold Func.isWrapper; first | (rw [if_pos (by decide +kernel)]; kernel_rfl) | (rw [if_neg (by decide +kernel)]; exact ⟨rfl, rfl⟩))
    (fun os started H enc _ F => lifted os started H enc F)
end Go.Proofs.Yteilkhenahkljaa.lexerJoins
