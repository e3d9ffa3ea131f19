/-
  PROVED: fact.Pack returns the pack of any strings, and fact.Unpack reads just what is a pack, as the document's reference does; no condition but the listed library variables, which the card ties to the program's text.
-/
import Derived.Test.YtlcldinmhcmdaaaDoorRows
import Derived.Test.YtlcldinmhcmdaaaDoorCards
import Derived.Test.YtlcldinmhcmdaaaDoorTie
import Derived.Test.YtlcldinmhcmdaaaDoorFaW
import Derived.Test.YtlcldinmhcmdaaaDoorOpenS
import Derived.WalkKit
import Derived.ProofKit
import Derived.OpenShut
import Derived.ShutString
import Derived.SizedLaws
import Derived.LaidMore
import Derived.LaidHandle
import Derived.MakeChecks
import Derived.Stop.LaidErr
import Derived.SevenTiedAt
namespace Go.Proofs.YtlcldinmhcmdaaaDoor.factPacks
open Go Go.ChangeShapes Go.WideShapes Go.ChangeAt Go.RowKit Go.Proofs.YtlcldinmhcmdaaaDoor
set_option linter.unusedVariables false
set_option linter.unusedSimpArgs false

theorem own : ownKnob Tryd.prog.godebug = none := by kernel_rfl
theorem laidOut' : laidOutB Tryd.prog = true := by kernel_rfl
theorem gTab : Tryd.prog.globalNamed "internal/strconv.uint64pow10" = some 1 := by kernel_rfl
theorem gSyn : Tryd.prog.globalNamed "strconv.ErrSyntax" = some 2 := by kernel_rfl
theorem gRng : Tryd.prog.globalNamed "strconv.ErrRange" = some 3 := by kernel_rfl
theorem tTab : (Tryd.prog.globals[1]?).map (·.type) = some 117 := by kernel_rfl
theorem tSyn : (Tryd.prog.globals[2]?).map (·.type) = some 53 := by kernel_rfl
theorem tRng : (Tryd.prog.globals[3]?).map (·.type) = some 53 := by kernel_rfl
theorem cells64 : Tryd.prog.cellsOf 104 = 1 := by kernel_rfl
theorem cellsTab : Tryd.prog.cellsOf 117 = 20 := by kernel_rfl
theorem cellsErr : Tryd.prog.cellsOf 134 = 1 := by kernel_rfl
theorem cellsStr : Tryd.prog.cellsOf 9 = 1 := by kernel_rfl
theorem star : "*" ++ "errors.errorString" = "*errors.errorString" := by decide
theorem rowErr (u : TypeId) (h : Tryd.prog.typeName? 3 u = some "*errors.errorString") : u = 132 :=
  typeName_ptr_named (nm := "errors.errorString") (by rw [star]; kernel_rfl) (by kernel_rfl) (by decide) u (by rw [star]; exact h)

/-- the listed variables -/
abbrev laid5 : List (String × DataW Unit) := Rows.factPacksRow.laid
theorem tab_datum : (Rows.laid_internal_strconv_uint64pow10 : DataW Unit) = Lib.tabData .u64 Lib.pow10Tab := by rfl
/-- what the listed variables give the walks -/
theorem of_laid {W : World} (h : laidMetH Tryd.prog laid5 W) : LaidW W := by
  rw [MakeChecks.laidMetH_plain _ _ _ (by kernel_rfl)] at h
  have h2 : laidMet Tryd.prog (("internal/strconv.uint64pow10", Rows.laid_internal_strconv_uint64pow10) :: [("strconv.ErrRange", Rows.laid_strconv_ErrRange), ("strconv.ErrSyntax", Rows.laid_strconv_ErrSyntax)]) W := h.tail.tail
  have h4 := h2.tail
  rw [tab_datum] at h2
  obtain ⟨a0, s0, hv0, -, -, -⟩ := laid_sentinel h4 gRng tRng Tryd.underlying53 rowErr Tryd.underlying132 Tryd.underlying134 rfl rfl Tryd.underlying9 cellsErr cellsStr
  obtain ⟨a1, s1, hv1, -, -, -⟩ := laid_sentinel h4.tail gSyn tSyn Tryd.underlying53 rowErr Tryd.underlying132 Tryd.underlying134 rfl rfl Tryd.underlying9 cellsErr cellsStr
  exact ⟨Lib.tabIs_of_head gTab tTab Tryd.underlying117 Tryd.underlying104 cells64 cellsTab h2, ⟨_, _, hv1⟩, ⟨_, _, hv0⟩⟩

theorem str_dec {H : Type} {enc : TypeId × Value → H} {w : World} {base : Nat} {spare : Nat → Bool} {held : Bool} (n : Nat) (cs : List Value) (y : DataW H × List MemPlace) (hl : cs.length = encN.size) (h : DataW.trod enc Tryd.prog w base spare held n 9 cs = some y) :
    ∃ x : ByteArray, cs = encN.cells x ∧ y.1 = .lit (.string x.data.toList) := by
  obtain ⟨s, e, hy, _⟩ := DataW.trod_string Tryd.underlying9 h
  exact ⟨s, e, by rw [hy]⟩
theorem weight_str {H : Type} (D : Nat → DataW H) (s : ByteArray) (e : TypeId) : ∀ (n j : Nat), j < n → D j = .lit (.string s.data.toList) → s.data.toList.length ∈ DataW.weightsAll Tryd.prog e ((List.range n).map D) := by
  intro n
  induction n with
  | zero => intro j h; omega
  | succ n ih =>
    intro j h hd
    have happ : ∀ (a b : List (DataW H)), DataW.weightsAll Tryd.prog e (a ++ b) = DataW.weightsAll Tryd.prog e a ++ DataW.weightsAll Tryd.prog e b := by
      intro a b
      induction a with
      | nil => simp [DataW.weightsAll]
      | cons x a ih => simp [DataW.weightsAll, ih]
    rw [List.range_succ, List.map_append, happ, List.mem_append]
    by_cases e : j = n
    · subst e
      right
      simp [DataW.weightsAll, hd, DataW.weights]
    · exact .inl (ih j (by omega) hd)
theorem reach_of {H : Type} {ds : List (DataW H)} {ts : List TypeId} (h : (DataW.weightsEach Tryd.prog ts ds).all (· ≤ reachBytes) = true) {k : Nat} (hk : k ∈ DataW.weightsEach Tryd.prog ts ds) : k ≤ 140737488355328 := by
  have h1 := List.all_eq_true.1 h k hk
  have h2 := reachBytes_lt
  have h3 : k ≤ reachBytes := by simpa using h1
  omega

set_option maxHeartbeats 4000000 in
set_option maxRecDepth 100000 in
theorem lifted (os : Os) (started : os.Started) (H : Type) (enc : TypeId × Value → H) :
    ReturnsInHanded {} Tryd.checked os 3 .any (fun w args => (Rows.factPacksSpec.pre enc Tryd.prog Tryd.f3 [] false w args ∧ laidMetH Tryd.prog laid5 w) ∧ sizedMet enc Tryd.prog Tryd.f3 (OpenSpec.ofChange Rows.factPacksSpec) false w args)
      (Rows.factPacksSpec.post enc Tryd.prog Tryd.f3 false true false false) := by
  refine returnsInHanded_of_change_and (C := Tryd.checked) (X := fun w _ => laidMetH Tryd.prog laid5 w) (fun _ _ _ hh h => h.of_heap hh) own started (by kernel_rfl) Tryd.func3
    (ChangeSpec.witness_shaped (enc := enc) (C := Tryd.checked) (os := os) (X := fun w _ => laidMetH Tryd.prog laid5 w) false (World.doorLaid Tryd.prog 400 os) #[.slice none 0 0, .string .empty, .int .i64 0] 8 rfl (World.shaped_of_RefB (by kernel_rfl) (by kernel_rfl)) (by kernel_rfl) (by kernel_rfl) (by kernel_rfl)
      (laidMetH_of_parts3 (fuel := 8) (laidMet_of_run' 8 (by kernel_rfl) (by kernel_rfl)) (by kernel_rfl) (by kernel_rfl))) ?_
  intro W base args ds gs before hval0 hW _ hsz0 hL _
  have hval : ∀ (j : Nat) t v, Tryd.f3.params[j]? = some t → args[j]? = some v → Value.okWide Tryd.prog W .any base t v := hval0
  have hW' := hW
  obtain ⟨p, q, hA0, hV, rfl, hfz, hnd⟩ := hW
  have hA : DataW.TrodAll enc Tryd.prog W 0 (fun _ => true) true Tryd.f3.params.toList args.toList ds p := hA0
  obtain ⟨rfl, rfl⟩ := trodVars_none hV
  have hsz : (DataW.weightsEach Tryd.prog (Tryd.f3.params.toList ++ []) (ds ++ [])).all (· ≤ reachBytes) = true := hsz0
  rw [Tryd.params3] at hA hval hsz
  obtain ⟨v0, vs0, d0, ds0, p0, q0, hargs, rfl, rfl, h0, r0⟩ := trodAll_cons hA
  obtain ⟨v1, vs1, d1, ds1, p1, q1, rfl, rfl, rfl, h1, r1⟩ := trodAll_cons r0
  obtain ⟨v2, vs2, d2, ds2, p2, q2, rfl, rfl, rfl, h2, r2⟩ := trodAll_cons r1
  obtain ⟨rfl, rfl, rfl⟩ := trodAll_nil r2
  obtain rfl : args = #[v0, v1, v2] := by cases args; simp_all
  have k0 := h0
  have lt0 : ∀ x ∈ p0, x.block < W.heap.size := by obtain ⟨m, hm⟩ := k0; exact DataW.trod_lt m _ _ _ hm
  have k1 := h1
  have lt1 : ∀ x ∈ p1, x.block < W.heap.size := by obtain ⟨m, hm⟩ := k1; exact DataW.trod_lt m _ _ _ hm
  have k2 := h2
  have lt2 : ∀ x ∈ p2, x.block < W.heap.size := by obtain ⟨m, hm⟩ := k2; exact DataW.trod_lt m _ _ _ hm
  obtain ⟨s, rfl, rfl, rfl, hmax⟩ := Go.ChangeMaps.open_string Tryd.underlying9 (hval 1 9 v1 rfl rfl) h1
  obtain ⟨z, rfl, rfl, rfl, hzw⟩ := open_int Tryd.underlying3 (hval 2 3 v2 rfl rfl) h2
  have bz : -9223372036854775808 ≤ z ∧ z ≤ 9223372036854775807 := by simpa [Lit.wf, IntKind.min, IntKind.max, IntKind.signed, IntKind.bits] using hzw
  obtain ⟨a0, len, cap0, rfl⟩ := okWide_slice Tryd.underlying22 (hval 0 22 v0 rfl rfl)
  obtain ⟨fuel, hf⟩ := h0
  obtain ⟨L, p', cap, hcs, hsl, _, hd⟩ := open_structs encN (fun x d => d = .lit (.string x.data.toList)) Tryd.underlying22 cellsStr (fun n cs y hl h => str_dec n cs y hl h) hf
  simp only [Value.cells, List.cons.injEq, and_true] at hcs
  rw [hcs] at hW' k0 ⊢
  have hzs : ∀ x ∈ L, x.size ≤ 140737488355328 := by
    intro x hx
    obtain ⟨i, hi, rfl⟩ := List.getElem_of_mem hx
    rcases hd with ⟨rfl, _⟩ | ⟨D, sp, e, hb⟩
    · simp at hi
    · simp only at e
      have := reach_of hsz (k := (L[i]).data.toList.length) (DataW.weights_mem_each (j := 0) (t := 22) (d := d0) rfl rfl _ (by
        rw [e]
        simp only [DataW.weights, Tryd.underlying22, List.mem_cons, List.mem_append]
        exact .inr (.inl (weight_str D _ _ L.length i hi (hb i hi)))))
      rwa [Fa.len_data] at this
  clear hA0 hval0
  refine (packs_walk p' L.length cap L s z W hsl hzs hmax bz.1 bz.2 (of_laid hL)).mono fun e W' ⟨he, bel⟩ => ?_
  subst he
  exact ⟨_, rfl, _, _, _, [], _, [], hW', trodAll_mk1 (shut_bool Tryd.underlying4 _), (trodAll_cons_mk (Below.trod laidOut' (by kernel_rfl) (of_decide_eq_true (by kernel_rfl)) k0 bel lt0) (trodAll_cons_mk (Below.trod laidOut' (by kernel_rfl) (of_decide_eq_true (by kernel_rfl)) k1 bel lt1) (trodAll_cons_mk (Below.trod laidOut' (by kernel_rfl) (of_decide_eq_true (by kernel_rfl)) k2 bel lt2) trodAll_mk0))), rfl, bel.frame _, fun h => by cases h⟩

theorem holds : Rows.FactPacksSaid :=
  OpenClaim.holds_of_wide 3 Tryd.f3 rfl rfl rfl rfl rfl rfl rfl ⟨rfl, rfl, rfl, rfl, rfl⟩ rfl rfl rfl rfl rfl (by kernel_rfl) Tryd.func3 (by kernel_rfl)
    (of_decide_eq_true (by kernel_rfl)) (by unfold Func.isWrapper; first | (rw [if_pos (by decide +kernel)]; kernel_rfl) | (rw [if_neg (by decide +kernel)]; exact ⟨rfl, rfl⟩))
    (fun os started H enc _ => lifted os started H enc)

theorem proved : Rows.FactPacksCardSaid :=
  Claim7.holds_tied_plain_at .later [] [.data, .data, .data, .sentinel, .sentinel] true (true, "da790d82e7519c83fce674ea1c48f463bf5c4c41c7efb7b26ef0835c03c355a4") true
    holds (fun _ h => by cases h) (by kernel_rfl) (fun _ h => by cases h) factPacks_row_tie rfl ⟨rfl, rfl⟩ (by kernel_rfl) rfl
    (fun f fn hf hfn => by
      obtain rfl : f = 3 := Option.some.inj ((show Tryd.prog.funcNamed "recompile/recompilelaw10.FactPacks" = some 3 by kernel_rfl).symm.trans hf) |>.symm
      obtain rfl : fn = Tryd.f3 := (Option.some.inj (Tryd.func3.symm.trans hfn)).symm
      exact ⟨by kernel_rfl, fun j t ht => by
        rw [Tryd.params3] at ht
        have hm : t ∈ [22, 9, 3] := by simpa using Array.mem_of_getElem? ht
        have hall : ([22, 9, 3].all fun u => !Tryd.prog.wantsStandIn u) = true := by kernel_rfl
        exact (show Tryd.prog.wantsStandIn t = false by simpa using List.all_eq_true.1 hall t hm)⟩)
    (by kernel_rfl)
end Go.Proofs.YtlcldinmhcmdaaaDoor.factPacks
