/-
  PROVED: for any code, choices and string that together hold at most 1048576 values and letters, fact.Code and fact.ReadCode return what the document's reference returns, of this code, of made codes and of changed strings; condition: this bound (a Builder cannot hold an answer longer than the model's greatest slice), and the listed library variables, which the card ties to the program's text.
-/
import Derived.Test.YthikdkeanndidaaDoorRows
import Derived.Test.YthikdkeanndidaaDoorCards
import Derived.Test.YthikdkeanndidaaDoorTie
import Derived.Test.YthikdkeanndidaaDoorCz
import Derived.Test.YthikdkeanndidaaDoorOpenS
import Derived.WalkKit
import Derived.ProofKit
import Derived.OpenShut
import Derived.JoinedCond
import Derived.ShutString
import Derived.SizedLaws
import Derived.LaidMore
import Derived.LaidHandle
import Derived.MakeChecks
import Derived.Stop.LaidErr
import Derived.SevenTiedAt
namespace Go.Proofs.YthikdkeanndidaaDoor.factCodes
open Go Go.ChangeShapes Go.WideShapes Go.ChangeAt Go.RowKit Go.Proofs.YthikdkeanndidaaDoor
set_option linter.unusedVariables false
set_option linter.unusedSimpArgs false

theorem own : ownKnob Tryd.prog.godebug = none := by kernel_rfl
theorem laidOut' : laidOutB Tryd.prog = true := by kernel_rfl
theorem gTab : Tryd.prog.globalNamed "internal/strconv.uint64pow10" = some 1 := by kernel_rfl
theorem gSyn : Tryd.prog.globalNamed "strconv.ErrSyntax" = some 2 := by kernel_rfl
theorem gRng : Tryd.prog.globalNamed "strconv.ErrRange" = some 3 := by kernel_rfl
theorem tTab : (Tryd.prog.globals[1]?).map (·.type) = some 139 := by kernel_rfl
theorem tSyn : (Tryd.prog.globals[2]?).map (·.type) = some 100 := by kernel_rfl
theorem tRng : (Tryd.prog.globals[3]?).map (·.type) = some 100 := by kernel_rfl
theorem cells64 : Tryd.prog.cellsOf 125 = 1 := by kernel_rfl
theorem cellsTab : Tryd.prog.cellsOf 139 = 20 := by kernel_rfl
theorem cellsErr : Tryd.prog.cellsOf 155 = 1 := by kernel_rfl
theorem cellsStr : Tryd.prog.cellsOf 9 = 1 := by kernel_rfl
theorem star : "*" ++ "errors.errorString" = "*errors.errorString" := by decide
theorem rowErr (u : TypeId) (h : Tryd.prog.typeName? 3 u = some "*errors.errorString") : u = 153 :=
  typeName_ptr_named (nm := "errors.errorString") (by rw [star]; kernel_rfl) (by kernel_rfl) (by decide) u (by rw [star]; exact h)

/-- the listed variables -/
abbrev laid5 : List (String × DataW Unit) := Rows.factCodesUptoRow.laid
theorem tab_datum : (Rows.laid_internal_strconv_uint64pow10 : DataW Unit) = Lib.tabData .u64 Lib.pow10Tab := by rfl
/-- what the listed variables give the walks -/
theorem of_laid {W : World} (h : laidMetH Tryd.prog laid5 W) : LaidW W := by
  rw [MakeChecks.laidMetH_plain _ _ _ (by kernel_rfl)] at h
  have h2 : laidMet Tryd.prog (("internal/strconv.uint64pow10", Rows.laid_internal_strconv_uint64pow10) :: [("strconv.ErrRange", Rows.laid_strconv_ErrRange), ("strconv.ErrSyntax", Rows.laid_strconv_ErrSyntax)]) W := h.tail.tail
  have h4 := h2.tail
  rw [tab_datum] at h2
  obtain ⟨a0, s0, hv0, -, -, -⟩ := laid_sentinel h4 gRng tRng Tryd.underlying100 rowErr Tryd.underlying153 Tryd.underlying155 rfl rfl Tryd.underlying9 cellsErr cellsStr
  obtain ⟨a1, s1, hv1, -, -, -⟩ := laid_sentinel h4.tail gSyn tSyn Tryd.underlying100 rowErr Tryd.underlying153 Tryd.underlying155 rfl rfl Tryd.underlying9 cellsErr cellsStr
  exact ⟨Lib.tabIs_of_head gTab tTab Tryd.underlying139 Tryd.underlying125 cells64 cellsTab h2, ⟨_, _, hv1⟩, ⟨_, _, hv0⟩⟩


/-! ### the code that came in -/
theorem bulk_appendF {H : Type} (l r : List (DataW H)) : Rows.uptoBulkAll (l ++ r) = Rows.uptoBulkAll l + Rows.uptoBulkAll r := by
  induction l with
  | nil => simp [Rows.uptoBulkAll]
  | cons x l ih => simp only [List.cons_append, Rows.uptoBulkAll, ih]; omega
theorem count_leF {H : Type} (D : Nat → DataW H) (n : Nat) (h : ∀ i, i < n → 1 ≤ Rows.uptoBulk (D i)) : ∀ j, j ≤ n → j ≤ Rows.uptoBulkAll ((List.range j).map D) := by
  intro j
  induction j with
  | zero => intro _; omega
  | succ j ih =>
    intro hj
    have h1 := ih (by omega)
    have h2 := h j (by omega)
    rw [List.range_succ, List.map_append, bulk_appendF]
    simp only [List.map_cons, List.map_nil, Rows.uptoBulkAll]
    omega
theorem cellsInt : Tryd.prog.cellsOf 3 = encI.size := by kernel_rfl
theorem cellsOp : Tryd.prog.cellsOf 58 = encOp.size := by kernel_rfl
theorem cellsSlI : Tryd.prog.cellsOf 25 = 1 := by kernel_rfl
instance : Inhabited Int := ⟨0⟩
instance : Inhabited Rop := ⟨(opp0, none, 0)⟩
theorem in_wf {n : Int} (h : Lit.wf (.int .i64 n) = true) : InI n := by
  unfold InI
  simpa [Lit.wf, IntKind.min, IntKind.max, IntKind.signed, IntKind.bits] using h
theorem int_dec {H : Type} {enc : TypeId × Value → H} {w : World} {base : Nat} {spare : Nat → Bool} {held : Bool} (n : Nat) (cs : List Value) (y : DataW H × List MemPlace) (hl : cs.length = encI.size) (h : DataW.trod enc Tryd.prog w base spare held n 3 cs = some y) :
    ∃ x : Int, cs = encI.cells x ∧ (InI x ∧ 1 ≤ Rows.uptoBulk y.1) := by
  obtain ⟨k, e, rfl, hw⟩ := DataW.trod_int Tryd.underlying3 h
  exact ⟨k, e, in_wf (by simpa using hw), by simp [Rows.uptoBulk]⟩
theorem ints_dec {H : Type} {enc : TypeId × Value → H} {w : World} {base : Nat} {spare : Nat → Bool} {held : Bool} (n : Nat) (cs : List Value) (y : DataW H × List MemPlace) (h : DataW.trod enc Tryd.prog w base spare held n 25 cs = some y) :
    ∃ (l : List Int) (p : Option Addr) (c : Nat), cs = [.slice p l.length c] ∧ SlIs encI w (.slice p l.length c) l ∧ (∀ n ∈ l, InI n) ∧ l.length ≤ Rows.uptoBulk y.1 := by
  obtain ⟨l, p, c, hcs, hsl, _, hd⟩ := open_structs encI (fun n d => InI n ∧ 1 ≤ Rows.uptoBulk d) Tryd.underlying25 cellsInt (fun n cs y hl h => int_dec n cs y hl h) h
  rcases hd with ⟨rfl, _⟩ | ⟨D, sp, e, hb⟩
  · exact ⟨[], p, c, hcs, hsl, (fun n hn => by cases hn), by simp⟩
  · refine ⟨l, p, c, hcs, hsl, fun n hn => ?_, ?_⟩
    · obtain ⟨i, hi, rfl⟩ := List.getElem_of_mem hn
      exact (hb i hi).1
    · rw [e]
      have := count_leF D l.length (fun i hi => (hb i hi).2) l.length (Nat.le_refl _)
      simp only [Rows.uptoBulk]
      omega
/-- an operation that came in -/
def OpIn {H : Type} (w : World) (x : Rop) (d : DataW H) : Prop := x.1.Ok ∧ SlIs encI w x.sl x.1.list ∧ x.1.list.length + x.1.sym.size + 5 ≤ Rows.uptoBulk d
set_option maxRecDepth 100000 in
theorem op_dec {H : Type} {enc : TypeId × Value → H} {w : World} {base : Nat} {spare : Nat → Bool} {held : Bool} (n : Nat) (cs : List Value) (y : DataW H × List MemPlace) (hl : cs.length = encOp.size) (h : DataW.trod enc Tryd.prog w base spare held n 58 cs = some y) :
    ∃ x : Rop, cs = encOp.cells x ∧ OpIn w x y.1 := by
  obtain ⟨xs, k, hk, rfl, _, hxl, hf⟩ := DataW.trod_struct Tryd.underlying58 h
  match xs, hxl, cs, hl with
  | [y0, y1, y2, y3, y4, y5], _, [v0, v1, v2, v3, v4, v5], _ =>
    have g0 := hf 0 _ rfl
    have g1 := hf 1 _ rfl
    have g2 := hf 2 _ rfl
    have g3 := hf 3 _ rfl
    have g4 := hf 4 _ rfl
    have g5 := hf 5 _ rfl
    have c3 : Tryd.prog.cellsOf 3 = 1 := by kernel_rfl
    have c9 : Tryd.prog.cellsOf 9 = 1 := by kernel_rfl
    have c7 := cellsSlI
    simp [c3, c9, c7] at g0 g1 g2 g3 g4 g5
    obtain ⟨k0, e0, _, w0⟩ := DataW.trod_int Tryd.underlying3 g0
    obtain ⟨k1, e1, _, w1⟩ := DataW.trod_int Tryd.underlying3 g1
    obtain ⟨k2, e2, _, w2⟩ := DataW.trod_int Tryd.underlying3 g2
    obtain ⟨k3, e3, _, w3⟩ := DataW.trod_int Tryd.underlying3 g3
    obtain ⟨l, p, c, e4, hsl, hli, hlb⟩ := ints_dec _ _ _ g4
    obtain ⟨s5, e5, z5, _⟩ := DataW.trod_string Tryd.underlying9 g5
    simp only [List.cons.injEq, and_true] at e0 e1 e2 e3 e4 e5
    subst e0; subst e1; subst e2; subst e3; subst e4; subst e5
    refine ⟨(⟨k0, k1, k2, k3, l, s5⟩, p, c), rfl, ⟨in_wf (by simpa using w0), in_wf (by simpa using w1), in_wf (by simpa using w2), in_wf (by simpa using w3), hli⟩, hsl, ?_⟩
    have e : s5.data.toList.length = s5.size := by simp
    have hy0 : ∀ (d : DataW H), 1 ≤ Rows.uptoBulk d := fun d => by
      cases d with
      | lit x => cases x <;> simp [Rows.uptoBulk]
      | _ => simp [Rows.uptoBulk]
    have b0 := hy0 y0.1
    have b1 := hy0 y1.1
    have b2 := hy0 y2.1
    have b3 := hy0 y3.1
    simp only [List.map_cons, List.map_nil, Rows.uptoBulk, Rows.uptoBulkAll, z5]
    omega
/-- how much all operations hold -/
theorem ops_bulk {H : Type} (w : World) (L : List Rop) (D : Nat → DataW H) (h : ∀ i (hi : i < L.length), OpIn w L[i] (D i)) (hb : Rows.uptoBulkAll ((List.range L.length).map D) ≤ 1048576) : ∀ j, j ≤ L.length → ((((L.take j).map (·.1)).map Fa.opS).map ByteArray.size).sum ≤ 50 * Rows.uptoBulkAll ((List.range j).map D) := by
  intro j
  induction j with
  | zero => intro _; simp
  | succ j ih =>
    intro hj
    have h1 := ih (by omega)
    obtain ⟨ho, _, h2⟩ := h j (by omega)
    have hle : Rows.uptoBulk (D j) ≤ Rows.uptoBulkAll ((List.range L.length).map D) := by
      have key : ∀ m, j < m → Rows.uptoBulk (D j) ≤ Rows.uptoBulkAll ((List.range m).map D) := by
        intro m
        induction m with
        | zero => intro h; omega
        | succ m ihm =>
          intro hm
          rw [List.range_succ, List.map_append, bulk_appendF]
          simp only [List.map_cons, List.map_nil, Rows.uptoBulkAll]
          by_cases e : j = m
          · subst e; omega
          · have := ihm (by omega); omega
      exact key _ (by omega)
    have h3 := opS_size ho (by omega) (by omega)
    rw [List.take_succ_eq_append_getElem (by omega), List.range_succ, List.map_append, List.map_append, List.map_append, List.map_append, List.sum_append, bulk_appendF]
    simp only [List.map_cons, List.map_nil, List.sum_cons, List.sum_nil, Rows.uptoBulkAll]
    omega
set_option maxRecDepth 100000 in
theorem open_code {H : Type} {enc : TypeId × Value → H} {W : World} {v : Value} {d : DataW H} {p : List MemPlace} {r : Reach} {b0 : Nat} (hv : Value.okWide Tryd.prog W r b0 24 v) (h : DataW.Trod enc Tryd.prog W 0 (fun _ => true) true 24 v d p) (hb : Rows.uptoBulk d ≤ 1048576) :
    ∃ (x : Cdd) (q : Option Addr) (c : Nat), v = .agg #[.int .i64 x.params, .int .i64 x.regs, .slice q x.ops.length c] ∧ OpsA (fun k => k < W.heap.size) W (.slice q x.ops.length c) x.ops ∧ (x.ops.length ≤ 40 → x.Gd) ∧ x.ops.length ≤ maxLen := by
  obtain ⟨z0, z1, z2, y0, y1, y2, m, rfl, hd, _, hy0, hy1, hy2⟩ := Go.Joins.open_agg3 Tryd.underlying24 (by kernel_rfl) (by kernel_rfl) hv h
  obtain ⟨pr, e0, rfl, w0⟩ := DataW.trod_int Tryd.underlying3 hy0
  obtain ⟨rg, e1, rfl, w1⟩ := DataW.trod_int Tryd.underlying3 hy1
  obtain ⟨L, q, c, e2, hsl, _, hdd⟩ := open_structs encOp (OpIn W) Tryd.underlying22 cellsOp (fun n cs y hl h => op_dec n cs y hl h) hy2
  simp only [List.cons.injEq, and_true] at e0 e1 e2
  subst e0; subst e1; subst e2
  have hlm : (L.map (·.1)).length = L.length := List.length_map _
  have hmx : L.length ≤ maxLen := by have := hsl.lies; omega
  rcases hdd with ⟨rfl, _⟩ | ⟨D, sp, e, hbk⟩
  · refine ⟨⟨pr, rg, []⟩, q, c, rfl, ⟨[], rfl, SlA.of_sl hsl, fun r hr => by cases hr⟩, fun _ => ⟨⟨in_wf (by simpa using w0), in_wf (by simpa using w1), fun o ho => by cases ho⟩, ?_⟩, Nat.zero_le _⟩
    have := cdS_size (x := ⟨pr, rg, []⟩) ⟨in_wf (by simpa using w0), in_wf (by simpa using w1), fun o ho => by cases ho⟩ (B := 0) (by omega) (fun o ho => by cases ho) (by simp) (by simp)
    simp only [List.length_nil] at this
    omega
  · have hin : ∀ r ∈ L, r.1.Ok ∧ SlIs encI W r.sl r.1.list := fun r hr => by
      obtain ⟨i, hi, rfl⟩ := List.getElem_of_mem hr
      exact ⟨(hbk i hi).1, (hbk i hi).2.1⟩
    have hok : (⟨pr, rg, L.map (·.1)⟩ : Cdd).Ok := ⟨in_wf (by simpa using w0), in_wf (by simpa using w1), fun o ho => by
      obtain ⟨r, hr, rfl⟩ := List.mem_map.1 ho
      exact (hin r hr).1⟩
    have hbb : Rows.uptoBulkAll ((List.range L.length).map D) ≤ 1048576 := by
      rw [hd, e] at hb
      simp only [Rows.uptoBulk, Rows.uptoBulkAll] at hb
      omega
    have hsum := ops_bulk W L D hbk hbb L.length (Nat.le_refl _)
    rw [List.take_length] at hsum
    refine ⟨⟨pr, rg, L.map (·.1)⟩, q, c, by rw [hlm], ⟨L, rfl, by rw [hlm]; exact SlA.of_sl hsl, fun r hr => SlA.of_sl (hin r hr).2⟩, fun h40 => ⟨hok, ?_⟩, by rw [hlm]; exact hmx⟩
    have hmem : ∀ o ∈ L.map (·.1), o.list.length ≤ 3000000000000 ∧ o.sym.size ≤ 3000000000000 := fun o ho => by
      obtain ⟨r, hr, rfl⟩ := List.mem_map.1 ho
      obtain ⟨i, hi, rfl⟩ := List.getElem_of_mem hr
      have h2 := (hbk i hi).2.2
      have key : ∀ m, i < m → Rows.uptoBulk (D i) ≤ Rows.uptoBulkAll ((List.range m).map D) := by
        intro m
        induction m with
        | zero => intro h; omega
        | succ m ihm =>
          intro hm
          rw [List.range_succ, List.map_append, bulk_appendF]
          simp only [List.map_cons, List.map_nil, Rows.uptoBulkAll]
          by_cases e : i = m
          · subst e; omega
          · have := ihm (by omega); omega
      have h3 := key _ hi
      omega
    have h40' : L.length ≤ 40 := by simpa using h40
    have := cdS_size (x := ⟨pr, rg, L.map (·.1)⟩) hok (B := 50 * 1048576) (by omega) hmem (Nat.le_trans hsum (by omega)) (by show (L.map (·.1)).length ≤ 1000000; omega)
    simp only at this
    omega

section
variable {H : Type} {enc : TypeId × Value → H}
/-- the wrap for a row with a condition of its own and variables that are laid -/
theorem returns_cond_and {C : Checked} {os : Os} {f : FuncId} {fn : Func} {s : OpenSpec} {k : (H : Type) → List (DataW H) → Bool} (hk : s.cond = some k) {F : Stop.Interp} {conds : List PathCond} {apart fresh handsOn again : Bool} {a : Assume} {X : World → Array Value → Prop}
    (hX : ∀ (w w' : World) (args : Array Value), w.heap = w'.heap → X w args → X w' args)
    (own : ownKnob C.prog.godebug = none) (started : os.Started) (noInit : C.prog.inits.idxOf? f = none) (hfn : C.prog.funcs[f]? = some fn)
    (witness : ∃ (w : World) (tape : Tape) (i : Input), w.os = os ∧ (w.forCall tape i).Shaped C.prog ∧ i.vars = [] ∧ Input.okWide C.prog (w.forCall tape i) .any w.heap.size f i ∧
      ((s.pre enc C.prog fn conds apart (w.forCall tape i).memory i.args ∧ X (w.forCall tape i).memory i.args) ∧ sizedMet enc C.prog fn s apart (w.forCall tape i).memory i.args) ∧ a.holds C.prog (lone (Frame.enter C.prog f i.args .normal) [] (w.forCall tape i)))
    (contract : ∀ (W : World) (base : Nat) (args : Array Value) (ds gs : List (DataW H)) (before : List MemPlace),
      (∀ (j : Nat) t v, fn.params[j]? = some t → args[j]? = some v → Value.okWide C.prog W .any base t v) →
      DataW.Whole enc C.prog fn.params.toList s.vars apart W args.toList ds gs before → k H (ds ++ gs) = true → X W args →
      Calls C.prog f args W fun e W' => ∃ v, e = .returned v ∧ (s.at F).post enc C.prog fn apart fresh handsOn again W args v W') :
    ReturnsInHanded a C os f .any (fun w args => (s.pre enc C.prog fn conds apart w args ∧ X w args) ∧ sizedMet enc C.prog fn s apart w args) ((s.at F).post enc C.prog fn apart fresh handsOn again) := by
  refine returnsInHanded_of_calls own started noInit witness ?_
  intro w tape i _ _ _ hok hpre hholds
  obtain ⟨_, _, _, fn', hfn', _, _, _, _, hval⟩ := hok
  have e : fn' = fn := Option.some.inj (hfn'.symm.trans hfn)
  subst e
  obtain ⟨ds, gs, before, hw, hc, hkk⟩ := (OpenSpec.pre_some hk conds apart _ _).1 hpre.1.1
  have hw' := DataW.Whole.of_heap (w' := w.forCall tape i) (by rfl) hw
  refine (contract (w.forCall tape i) w.heap.size i.args ds gs before hval hw' hkk (hX _ _ _ (by rfl) hpre.1.2)).mono fun e W' ⟨v, he, hp⟩ => ?_
  subst he
  exact ChangeSpec.post_blind hp
theorem witness_cond_laid {C : Checked} {os : Os} {f : FuncId} {fn : Func} {s : OpenSpec} {k : (H : Type) → List (DataW H) → Bool} (hk : s.cond = some k) {conds : List PathCond} {apart : Bool} {X : World → Array Value → Prop} (modest : Bool) (w0 : World) (args : Array Value) (fuel : Nat) (hos : w0.os = os)
    (hsh : (w0.forCall (fun _ _ => 0) ⟨#[], args, []⟩).Shaped C.prog)
    (hok : Input.okWideB C.prog (w0.forCall (fun _ _ => 0) ⟨#[], args, []⟩) f ⟨#[], args, []⟩ = true)
    {x : List (DataW H) × List (DataW H) × List MemPlace} (hx : DataW.whole enc C.prog (w0.forCall (fun _ _ => 0) ⟨#[], args, []⟩).memory fn.params.toList s.vars apart args.toList fuel = some x)
    (hconds : conds.all (PathCond.test C.prog ⟨fn.params.toList, x.1, s.bare.plain.varTypes C.prog, x.2.1⟩) = true) (hkk : k H (x.1 ++ x.2.1) = true)
    (hsz : s.bare.sizedB enc C.prog fn apart (w0.forCall (fun _ _ => 0) ⟨#[], args, []⟩).memory args fuel = true)
    (hX : X (w0.forCall (fun _ _ => 0) ⟨#[], args, []⟩).memory args) :
    ∃ (w : World) (tape : Tape) (i : Input), w.os = os ∧ (w.forCall tape i).Shaped C.prog ∧ i.vars = [] ∧ Input.okWide C.prog (w.forCall tape i) .any w.heap.size f i ∧
      ((s.pre enc C.prog fn conds apart (w.forCall tape i).memory i.args ∧ X (w.forCall tape i).memory i.args) ∧ sizedMet enc C.prog fn s apart (w.forCall tape i).memory i.args) ∧ ({ modest := modest } : Assume).holds C.prog (lone (Frame.enter C.prog f i.args .normal) [] (w.forCall tape i)) :=
  ⟨w0, fun _ _ => 0, ⟨#[], args, []⟩, hos, hsh, (Input.okWide_of_okWideB (base := 0) hok).1, (Input.okWide_of_okWideB hok).2,
    ⟨⟨(OpenSpec.pre_some hk conds apart _ _).2 ⟨x.1, x.2.1, x.2.2, DataW.Whole_of_whole hx, hconds, hkk⟩, hX⟩, sizedMet_of_sizedB hsz⟩, by
    simp only [Assume.holds]
    exact ⟨by simp, by simp, fun _ => Modest.zero, by simp, by simp⟩⟩
end

set_option maxHeartbeats 4000000 in
set_option maxRecDepth 100000 in
theorem lifted (os : Os) (started : os.Started) (H : Type) (enc : TypeId × Value → H) (F : Stop.Interp) :
    ReturnsInHanded {} Tryd.checked os 3 .any (fun w args => ((Rows.OpenSpec.upto Rows.factCodesSpec).pre enc Tryd.prog Tryd.f3 [] false w args ∧ laidMetH Tryd.prog laid5 w) ∧ sizedMet enc Tryd.prog Tryd.f3 (Rows.OpenSpec.upto Rows.factCodesSpec) false w args)
      (((Rows.OpenSpec.upto Rows.factCodesSpec).at F).post enc Tryd.prog Tryd.f3 false true false false) := by
  refine returns_cond_and (C := Tryd.checked) (s := Rows.OpenSpec.upto Rows.factCodesSpec) (k := Rows.uptoSmall) rfl (X := fun w _ => laidMetH Tryd.prog laid5 w) (fun _ _ _ hh h => h.of_heap hh) own started (by kernel_rfl) Tryd.func3
    (witness_cond_laid (enc := enc) (C := Tryd.checked) (os := os) (s := Rows.OpenSpec.upto Rows.factCodesSpec) (k := Rows.uptoSmall) rfl (X := fun w _ => laidMetH Tryd.prog laid5 w) false (World.doorLaid Tryd.prog 400 os) #[.agg #[.int .i64 0, .int .i64 0, .slice none 0 0], .slice none 0 0, .string .empty] 8 rfl (World.shaped_of_RefB (by kernel_rfl) (by kernel_rfl)) (by kernel_rfl)
      (x := ([.agg [.lit (.int .i64 0), .lit (.int .i64 0), .nil], .nil, .lit (.string [])], [], [])) (by kernel_rfl) rfl (by kernel_rfl) (by kernel_rfl)
      (laidMetH_of_parts3 (fuel := 8) (laidMet_of_run' 8 (by kernel_rfl) (by kernel_rfl)) (by kernel_rfl) (by kernel_rfl))) ?_
  intro W base args ds gs before hval0 hW hk0 hL
  have hval : ∀ (j : Nat) t v, Tryd.f3.params[j]? = some t → args[j]? = some v → Value.okWide Tryd.prog W .any base t v := hval0
  have hW' := hW
  obtain ⟨p, q, hA0, hV, rfl, hfz, hnd⟩ := hW
  have hA : DataW.TrodAll enc Tryd.prog W 0 (fun _ => true) true Tryd.f3.params.toList args.toList ds p := hA0
  obtain ⟨rfl, rfl⟩ := trodVars_none hV
  rw [Tryd.params3] at hA hval
  obtain ⟨v0, vs0, d0, ds0, p0, q0, hargs, rfl, rfl, h0, r0⟩ := trodAll_cons hA
  obtain ⟨v1, vs1, d1, ds1, p1, q1, rfl, rfl, rfl, h1, r1⟩ := trodAll_cons r0
  obtain ⟨v2, vs2, d2, ds2, p2, q2, rfl, rfl, rfl, h2, r2⟩ := trodAll_cons r1
  obtain ⟨rfl, rfl, rfl⟩ := trodAll_nil r2
  obtain rfl : args = #[v0, v1, v2] := by cases args; simp_all
  have k0 := h0
  have lt0 : ∀ x ∈ p0, x.block < W.heap.size := by obtain ⟨m, hm⟩ := k0; exact DataW.trod_lt m _ _ _ hm
  have k1 := h1
  have lt1 : ∀ x ∈ p1, x.block < W.heap.size := by obtain ⟨m, hm⟩ := k1; exact DataW.trod_lt m _ _ _ hm
  have k2 := h2
  have lt2 : ∀ x ∈ p2, x.block < W.heap.size := by obtain ⟨m, hm⟩ := k2; exact DataW.trod_lt m _ _ _ hm
  have hb : Rows.uptoBulkAll ([d0, d1, d2] ++ []) ≤ 1048576 := of_decide_eq_true hk0
  simp only [List.append_nil, Rows.uptoBulkAll] at hb
  obtain ⟨x, q, c, rfl, hops, hgd, hnm⟩ := open_code (hval 0 24 v0 rfl rfl) h0 (by omega)
  obtain ⟨tp, tn, tcap, rfl, htm, hrl, htb⟩ := open_rolls (hval 1 25 v1 rfl rfl) h1
  obtain ⟨s, rfl, rfl, rfl, hmax⟩ := Go.ChangeMaps.open_string Tryd.underlying9 (hval 2 9 v2 rfl rfl) h2
  clear hA0 hval0
  refine (codes_walk q tp c tn tcap x s W hops hgd hnm hrl htm htb hmax (of_laid hL)).mono fun e W' ⟨he, bel⟩ => ?_
  subst he
  exact ⟨_, rfl, _, _, _, [], _, [], hW', trodAll_mk1 (shut_bool Tryd.underlying4 _), (trodAll_cons_mk (Below.trod laidOut' (by kernel_rfl) (of_decide_eq_true (by kernel_rfl)) k0 bel lt0) (trodAll_cons_mk (Below.trod laidOut' (by kernel_rfl) (of_decide_eq_true (by kernel_rfl)) k1 bel lt1) (trodAll_cons_mk (Below.trod laidOut' (by kernel_rfl) (of_decide_eq_true (by kernel_rfl)) k2 bel lt2) trodAll_mk0))), rfl, bel.frame _, fun h => by cases h⟩

theorem holds : Rows.FactCodesUptoSaid :=
  OpenClaim.holds_of_cond 3 Tryd.f3 rfl rfl rfl rfl rfl rfl rfl ⟨rfl, rfl, rfl, rfl, rfl⟩ rfl rfl rfl rfl rfl (by kernel_rfl) Tryd.func3 (by kernel_rfl)
    (of_decide_eq_true (by kernel_rfl)) (by unfold Func.isWrapper; first | (rw [if_pos (by decide +kernel)]; kernel_rfl) | (rw [if_neg (by decide +kernel)]; exact ⟨rfl, rfl⟩))
    (fun os started H enc _ F => lifted os started H enc F)

theorem proved : Rows.FactCodesUptoCardSaid :=
  Claim7.holds_tied_plain_at .later [] [.data, .data, .data, .sentinel, .sentinel] true (true, "efc6952b1cf6ff2dd1f83893438ea9c5c4f6481439ca21d0575fbea5080fe984") true
    holds (fun _ h => by cases h) (by kernel_rfl) (fun _ h => by cases h) factCodesUpto_row_tie rfl ⟨rfl, rfl⟩ (by kernel_rfl) rfl
    (fun f fn hf hfn => by
      obtain rfl : f = 3 := Option.some.inj ((show Tryd.prog.funcNamed "recompile/recompilelaw10.FactCodes" = some 3 by kernel_rfl).symm.trans hf) |>.symm
      obtain rfl : fn = Tryd.f3 := (Option.some.inj (Tryd.func3.symm.trans hfn)).symm
      exact ⟨by kernel_rfl, fun j t ht => by
        rw [Tryd.params3] at ht
        have hm : t ∈ [24, 25, 9] := by simpa using Array.mem_of_getElem? ht
        have hall : ([24, 25, 9].all fun u => !Tryd.prog.wantsStandIn u) = true := by kernel_rfl
        exact (show Tryd.prog.wantsStandIn t = false by simpa using List.all_eq_true.1 hall t hm)⟩)
    (by kernel_rfl)
end Go.Proofs.YthikdkeanndidaaDoor.factCodes
