/-
  LAWS: strings of codes as the reference reads them; the kinds of the regions of its ReadCode.
-/
import Derived.Test.YthikdkeanndidaaDoorCm
import Derived.Test.YthikdkeanndidaaDoorCh
import Derived.Test.YthikdkeanndidaaDoorOne
namespace Go.Proofs.YthikdkeanndidaaDoor
open Go Go.RowKit
set_option linter.unusedVariables false
set_option linter.unusedSimpArgs false
set_option maxRecDepth 1000000

theorem len2 {α : Type} {L : List α} (h : L.length = 2) : ∃ a b, L = [a, b] := by
  rcases L with _ | ⟨a, _ | ⟨b, _ | ⟨c, t⟩⟩⟩ <;> simp at h
  exact ⟨a, b, rfl⟩
theorem len3 {α : Type} {L : List α} (h : L.length = 3) : ∃ a b c, L = [a, b, c] := by
  rcases L with _ | ⟨a, _ | ⟨b, _ | ⟨c, _ | ⟨d, t⟩⟩⟩⟩ <;> simp at h
  exact ⟨a, b, c, rfl⟩
theorem len4 {α : Type} {L : List α} (h : L.length = 4) : ∃ a b c d, L = [a, b, c, d] := by
  rcases L with _ | ⟨a, _ | ⟨b, _ | ⟨c, _ | ⟨d, _ | ⟨e, t⟩⟩⟩⟩⟩ <;> simp at h
  exact ⟨a, b, c, d, rfl⟩
theorem len6 {α : Type} {L : List α} (h : L.length = 6) : ∃ a b c d e f, L = [a, b, c, d, e, f] := by
  rcases L with _ | ⟨a, _ | ⟨b, _ | ⟨c, _ | ⟨d, _ | ⟨e, _ | ⟨f, _ | ⟨g, t⟩⟩⟩⟩⟩⟩⟩ <;> simp at h
  exact ⟨a, b, c, d, e, f, rfl⟩
/-- the pack of another list -/
theorem got_bad {k : Nat} {s : ByteArray} {L M : List ByteArray} {b : Bool} (hsz : s.size < 9223372036854775808) (hg : Fa.Got s.data.toList L b) (hno : (b && decide (L.length = k)) = false) (hl : M.length = k) : packS M ≠ s := by
  intro e
  have hp : Fa.Got s.data.toList M true := ⟨fun _ => by rw [← e, Fa.packS_data], fun q => by cases q⟩
  obtain ⟨e1, e2⟩ := Fa.Got.same (by rw [Fa.len_data]; exact hsz) hg hp
  rw [e1, e2, hl] at hno
  simp at hno
theorem got_is {s : ByteArray} {L M : List ByteArray} (hsz : s.size < 9223372036854775808) (hg : Fa.Got s.data.toList L true) (e : packS M = s) : L = M := by
  have hp : Fa.Got s.data.toList M true := ⟨fun _ => by rw [← e, Fa.packS_data], fun q => by cases q⟩
  exact (Fa.Got.same (by rw [Fa.len_data]; exact hsz) hg hp).1
/-- an operation that is read -/
theorem rop_ok {s a0 a1 a2 a3 a4 a5 : ByteArray} {n0 n1 n2 n3 : Int} {l : List Int} (hg : Fa.Got s.data.toList [a0, a1, a2, a3, a4, a5] true) (h1 : [n0, n1, n2, n3].map itS = [a0, a1, a2, a3]) (h2 : ∀ n ∈ [n0, n1, n2, n3], InI n)
    (h3 : Fa.numsS l = a4) (h4 : ∀ n ∈ l, InI n) : Fa.opS ⟨n0, n1, n2, n3, l, a5⟩ = s ∧ (⟨n0, n1, n2, n3, l, a5⟩ : Opp).Ok := by
  simp only [List.map_cons, List.map_nil, List.cons.injEq, and_true] at h1
  obtain ⟨rfl, rfl, rfl, rfl⟩ := h1
  subst h3
  exact ⟨Fa.got_data (hg.1 rfl), ⟨h2 _ (by simp), h2 _ (by simp), h2 _ (by simp), h2 _ (by simp), h4⟩⟩
theorem rop_bad {s a0 a1 a2 a3 a4 a5 : ByteArray} (hsz : s.size < 9223372036854775808) (hg : Fa.Got s.data.toList [a0, a1, a2, a3, a4, a5] true) (h : (∃ y ∈ [a0, a1, a2, a3], ∀ z, InI z → itS z ≠ y) ∨ (∀ l : List Int, (∀ n ∈ l, InI n) → Fa.numsS l ≠ a4))
    (o : Opp) (ho : o.Ok) : Fa.opS o ≠ s := by
  intro e
  have h1 := got_is (M := [itS o.kind, itS o.a, itS o.b, itS o.c, Fa.numsS o.list, o.sym]) hsz hg e
  simp only [List.cons.injEq, and_true] at h1
  obtain ⟨rfl, rfl, rfl, rfl, rfl, rfl⟩ := h1
  rcases h with ⟨y, hy, hz⟩ | h
  · simp only [List.mem_cons, List.not_mem_nil, or_false] at hy
    rcases hy with rfl | rfl | rfl | rfl
    · exact hz _ ho.kind rfl
    · exact hz _ ho.a rfl
    · exact hz _ ho.b rfl
    · exact hz _ ho.c rfl
  · exact h _ ho.list rfl
/-- a code that is read -/
theorem rcd_ok {s a0 a1 a2 : ByteArray} {n0 n1 : Int} {L : List ByteArray} {l : List Opp} (hg : Fa.Got s.data.toList [a0, a1, a2] true) (h1 : [n0, n1].map itS = [a0, a1]) (h2 : ∀ n ∈ [n0, n1], InI n)
    (hg2 : Fa.Got a2.data.toList L true) (h3 : l.map Fa.opS = L) (h4 : ∀ o ∈ l, o.Ok) : Fa.cdS ⟨n0, n1, l⟩ = s ∧ (⟨n0, n1, l⟩ : Cdd).Ok := by
  simp only [List.map_cons, List.map_nil, List.cons.injEq, and_true] at h1
  obtain ⟨rfl, rfl⟩ := h1
  subst h3
  have e2 := Fa.got_data (hg2.1 rfl)
  subst e2
  exact ⟨Fa.got_data (hg.1 rfl), ⟨h2 _ (by simp), h2 _ (by simp), h4⟩⟩
theorem rcd_bad {s a0 a1 a2 : ByteArray} {L : List ByteArray} {b : Bool} (hsz : s.size < 9223372036854775808) (hg : Fa.Got s.data.toList [a0, a1, a2] true) (ha2 : a2.size < 9223372036854775808) (hg2 : Fa.Got a2.data.toList L b)
    (h : (∃ y ∈ [a0, a1], ∀ z, InI z → itS z ≠ y) ∨ b = false ∨ (∃ y ∈ L, ∀ o : Opp, o.Ok → Fa.opS o ≠ y)) (x : Cdd) (hx : x.Ok) : Fa.cdS x ≠ s := by
  intro e
  have h1 := got_is (M := [itS x.params, itS x.regs, packS (x.ops.map Fa.opS)]) hsz hg e
  simp only [List.cons.injEq, and_true] at h1
  obtain ⟨rfl, rfl, rfl⟩ := h1
  have hp : Fa.Got (packS (x.ops.map Fa.opS)).data.toList (x.ops.map Fa.opS) true := ⟨fun _ => by rw [Fa.packS_data], fun q => by cases q⟩
  obtain ⟨e1, e2⟩ := Fa.Got.same (by rw [Fa.len_data]; exact ha2) hg2 hp
  rcases h with ⟨y, hy, hz⟩ | h | ⟨y, hy, hz⟩
  · simp only [List.mem_cons, List.not_mem_nil, or_false] at hy
    rcases hy with rfl | rfl
    · exact hz _ hx.params rfl
    · exact hz _ hx.regs rfl
  · rw [h] at e2; cases e2
  · rw [e1] at hy
    obtain ⟨o, ho, rfl⟩ := List.mem_map.1 hy
    exact hz o (hx.ops o ho) rfl
/-- a slice that is not empty -/
theorem SlA.row {α : Type} {E : Enc α} {A : Nat → Prop} {w : World} {p : Option Addr} {n c : Nat} {L : List α} (h : SlA E A w (.slice p n c) L) (h0 : 0 < L.length) : ∃ b o, p = some ⟨b, o, none⟩ ∧ A b ∧ ∀ j (hj : j < L.length), ∀ k v, k < E.size → (E.cells L[j])[k]? = some v → w.cell? ⟨b, o + j * E.size + k, none⟩ = some v := by
  obtain ⟨p', c', e, h2, h3, h4⟩ := h
  injection e with e1 e2 e3
  subst e1; subst e2; subst e3
  obtain ⟨b, o, e, ha, hc⟩ := h4 h0
  exact ⟨b, o, e, ha, fun j hj k v hk hv => hc.elem j hj k hk v hv⟩
/-- numbers that are drawn -/
def SomeV (base : Nat) (L : List ByteArray) (p : Option Addr) (n c : Nat) (b : Bool) (w : World) : Prop := ∃ l : List Int, n = l.length ∧ SlA encI (fun k => base ≤ k) w (.slice p n c) l ∧ (b = true → l.map itS = L ∧ ∀ n ∈ l, InI n) ∧ (b = false → ∃ y ∈ L, ∀ z, InI z → itS z ≠ y)
theorem SomeV.below {base : Nat} {L : List ByteArray} {p : Option Addr} {n c : Nat} {b : Bool} {w w' : World} (h : SomeV base L p n c b w) (hb : Below w.heap.size w w') : SomeV base L p n c b w' := by
  obtain ⟨l, h1, h2, h3⟩ := h
  exact ⟨l, h1, h2.keep (Kp.below hb), h3⟩
def tySome (base : Nat) (L : List ByteArray) : Ty LeW := ⟨Option Addr × Nat × Nat × Bool, ⟨(none, 0, 0, false)⟩, fun x => .tuple #[.slice x.1 x.2.1 x.2.2.1, .bool x.2.2.2], fun x w => SomeV base L x.1 x.2.1 x.2.2.1 x.2.2.2 w, fun x w w' hl h => h.below hl⟩
theorem tySome_f (base : Nat) (L : List ByteArray) (p : Option Addr) (n c : Nat) (b : Bool) : (tySome base L).f (p, n, c, b) = .tuple #[.slice p n c, .bool b] := rfl
def tySomeS (base : Nat) (L : List ByteArray) : Ty LeW := ⟨Option Addr × Nat × Nat × Bool, ⟨(none, 0, 0, false)⟩, fun x => .slice x.1 x.2.1 x.2.2.1, fun x w => SomeV base L x.1 x.2.1 x.2.2.1 x.2.2.2 w, fun x w w' hl h => h.below hl⟩
theorem tySomeS_f (base : Nat) (L : List ByteArray) (p : Option Addr) (n c : Nat) (b : Bool) : (tySomeS base L).f (p, n, c, b) = .slice p n c := rfl
def tySomeB (base : Nat) (L : List ByteArray) : Ty LeW := ⟨Option Addr × Nat × Nat × Bool, ⟨(none, 0, 0, false)⟩, fun x => .bool x.2.2.2, fun x w => SomeV base L x.1 x.2.1 x.2.2.1 x.2.2.2 w, fun x w w' hl h => h.below hl⟩
theorem tySomeB_f (base : Nat) (L : List ByteArray) (p : Option Addr) (n c : Nat) (b : Bool) : (tySomeB base L).f (p, n, c, b) = .bool b := rfl
/-- whether strings are numbers does not depend on who reads them -/
theorem SomeV.same {base : Nat} {L : List ByteArray} {p p' : Option Addr} {n c n' c' : Nat} {b b' : Bool} {w w' : World} (h : SomeV base L p n c b w) (k : SomeV base L p' n' c' b' w') : SomeV base L p n c b' w := by
  have e : b = b' := by
    obtain ⟨l, -, -, h1, h2⟩ := h
    obtain ⟨m, -, -, k1, k2⟩ := k
    cases b <;> cases b'
    · rfl
    · obtain ⟨y, hy, hn⟩ := h2 rfl
      obtain ⟨e1, e2⟩ := k1 rfl
      rw [← e1] at hy
      obtain ⟨z, hz, rfl⟩ := List.mem_map.1 hy
      exact absurd rfl (hn z (e2 z hz))
    · obtain ⟨y, hy, hn⟩ := k2 rfl
      obtain ⟨e1, e2⟩ := h1 rfl
      rw [← e1] at hy
      obtain ⟨z, hz, rfl⟩ := List.mem_map.1 hy
      exact absurd rfl (hn z (e2 z hz))
    · rfl
  rw [← e]; exact h
theorem tySome_mk {base : Nat} {L : List ByteArray} {e : Ending} {w' : World} {B : Nat} (h : SomeP B L e w') (hB : base ≤ B) : ∃ p n c b, e = .returned (.tuple #[.slice p n c, .bool b]) ∧ SomeV base L p n c b w' := by
  obtain ⟨v, l, b, rfl, h1, h2, h3⟩ := h
  obtain ⟨p, c, rfl, hs⟩ := h1.sla.shape
  exact ⟨p, _, c, b, rfl, l, rfl, hs.mono (fun k hk => Nat.le_trans hB hk), h2, h3⟩
/-- one operation in a slice that was just laid -/
abbrev LBo : World → World → Prop := fun x y => Below x.heap.size x y
theorem one_isO {P : Program} {C : World → World → Prop} {Pn : Ending → World → Prop} {c k : Nat} {v : Value} {w : World} (h : k ≠ c) : oneUpon P (sel LBo C c k) Pn (tvIs v) w (.ok (.value v) w) := by
  refine ⟨?_, (), rfl, trivial⟩
  unfold sel
  rw [if_neg h]
  exact Below.refl _ _
theorem cells_sameO {w w' : World} {b off : Nat} {cs : List Value} (h : CellsAt w b off cs) (e : w'.heap[b]? = w.heap[b]?) : CellsAt w' b off cs := fun j v hv => by
  rw [World.cell?_of_block (w := w) e]; exact h j v hv
def tvOneO (row : Option Nat) (r : Rop) : TyV := ⟨{b : Nat // True}, ⟨⟨0, trivial⟩⟩, fun x => .slice (some ⟨x.1, 0, none⟩) 1 1, fun x w => CellsAt w x.1 0 (encOp.cells r) ∧ some x.1 ≠ row ∧ x.1 < w.heap.size⟩
theorem tvOneO_good (row : Option Nat) (r : Rop) (c k : Nat) : Good LBo (fun x y => x.grownBy y row) c k (tvOneO row r) :=
  ⟨fun x w w' hl h => ⟨cells_sameO h.1 (hl.block x.1 h.2.2), h.2.1, Nat.lt_of_lt_of_le h.2.2 hl.size⟩,
   fun _ x w w' hl h => ⟨cells_sameO h.1 (hl.block x.1 h.2.2 h.2.1), h.2.1, Nat.lt_of_lt_of_le h.2.2 hl.size⟩⟩
theorem tvOneO_f (row : Option Nat) (r : Rop) (b : Nat) (h : True) : (tvOneO row r).f ⟨b, h⟩ = .slice (some ⟨b, 0, none⟩) 1 1 := rfl
theorem tvOneO_mk {row : Option Nat} {r : Rop} {w : World} {c k : Nat} {P : Program} {Pn : Ending → World → Prop} (hr : ∀ j, row = some j → j < w.heap.size) (h : k ≠ c) :
    oneUpon P (sel LBo (fun x y => x.grownBy y row) c k) Pn (tvOneO row r) w (.ok (.value (.slice (some ⟨w.heap.size, 0, none⟩) 1 1)) (w.alloc (.cells #[.int .i64 r.1.kind, .int .i64 r.1.a, .int .i64 r.1.b, .int .i64 r.1.c, .slice r.2.1 r.1.list.length r.2.2, .string r.1.sym] 58))) := by
  refine ⟨?_, ⟨w.heap.size, trivial⟩, rfl, cellsAt_alloc w (encOp.cells r) _, fun e => ?_, by simp⟩
  · unfold sel; rw [if_neg h]; exact below_box w _
  · have := hr _ e.symm; simp only at this; omega
/-- the row with one more -/
def tvAppO (base : Nat) (R : List Rop) (r : Rop) : TyV := ⟨{v : Value // True}, ⟨⟨undef, trivial⟩⟩, fun v => v.1, fun v w => OpsRow w base v.1 (R ++ [r])⟩
theorem tvAppO_good (row : Option Nat) (base : Nat) (R : List Rop) (r : Rop) (c : Nat) : Good LBo (fun x y => x.grownBy y row) c c (tvAppO base R r) :=
  ⟨fun x w w' hl h => OpsRow.below h hl, fun hk => absurd rfl hk⟩
theorem tvAppO_f (base : Nat) (R : List Rop) (r : Rop) (v : Value) (h : True) : (tvAppO base R r).f ⟨v, h⟩ = v := rfl
theorem tvAppO_mk {row : Option Nat} {base c sb : Nat} {R : List Rop} {r : Rop} {v : Value} {w : World} {Pn : Ending → World → Prop} (hv : OpsRow w base v R) (hrow : row = v.ownBlock) (hx : CellsAt w sb 0 (encOp.cells r)) (hq : SlA encI (fun k => base ≤ k ∧ some k ≠ v.ownBlock) w r.sl r.1.list) (hl : R.length ≤ 1000000000) (hb : base ≤ w.heap.size) (ty : TypeId) :
    ∃ v' w', (Builtin.append_ #[22, 22] ty #[v, .slice (some ⟨sb, 0, none⟩) 1 1]).run Tryd.prog w = .ok v' w' ∧ oneUpon Tryd.prog (sel LBo (fun x y => x.grownBy y row) c c) Pn (tvAppO base R r) w (.ok (.value v') w') := by
  obtain ⟨i0, hi0, hz0, hz1, hz2⟩ := info_parts info_op
  obtain ⟨v', w', hr, h2, h3, _, h5⟩ := run_append_own_at (P := Tryd.prog) w base 22 ty 58 i0 (.agg #[.int .i64 0, .int .i64 0, .int .i64 0, .int .i64 0, .slice none 0 0, .string ⟨#[]⟩]) 6 72 Tryd.underlying22 hi0 hz0 hz1 hz2 rfl (by decide) v R.length (encOp.all R) hv.own ⟨sb, 0, none⟩ 1 1 (encOp.cells r) rfl (fun j u hj => by rw [add_lit]; exact hx j u hj) (fun u hu => encOp.one r u hu) (by unfold maxLen; omega) (by omega) hb
  subst hrow
  refine ⟨v', w', hr, ?_, ⟨v', trivial⟩, rfl, ?_⟩
  · unfold sel; rw [if_pos rfl]; exact h3
  · refine hv.push h3 ?_ h5 hq
    unfold OwnL
    rw [List.length_append, encOp.all_append, show encOp.all [r] = encOp.cells r by simp [Enc.all]]
    exact h2
theorem oneAt_appendO {P : Program} {ops : Array Oper} {o : Oper} {a : Act} {L : World → World → Prop} {Pn : Ending → World → Prop} {t : TyV} {w w' : World} {s x : Operand} {sT : TypeId} {v u v' : Value} (hgd : o.guard = none)
    (ho : o.op = .call { callee := .builtin .append, args := #[s, x], argTypes := #[sT, sT] }) (hs : a.eval s = v) (hx : a.eval x = u) (hr : (Builtin.append_ #[sT, sT] o.type #[v, u]).run P w = .ok v' w') (h : oneUpon P L Pn t w (.ok (.value v') w')) : oneAt P ops L Pn t o a w := by
  have hw : Region.wanted o (yielded ops a.tmps) = true := by simp [Region.wanted, hgd]
  unfold oneAt
  rw [if_pos hw]
  unfold execOp
  simp only [ho, resolve, invoke, builtin, Sem.run_bind, Sem.run_pure, Result.andThen_ok, List.map_toArray, List.map_cons, List.map_nil, hs, hx, hr]
  exact h
theorem lean_ofO {md : Region.Mode} {o : Oper} {i : Nat} {F : Facts} {w : World} (h : leanO md o i F w) (j : Nat) (hj : (o.after.any fun e => Region.binds md e && (e.on == j)) = true) : F j w := by
  obtain ⟨e, he, h2⟩ := Array.any_eq_true'.1 hj
  simp only [Bool.and_eq_true, beq_iff_eq] at h2
  rw [← h2.2]
  exact h.2 e he h2.1
theorem OwnL.ltO {α : Type} {E : Enc α} {t : TypeId} {w : World} {B : Nat} {v : Value} {L : List α} (h : OwnL E t w B v L) : ∀ g, v.ownBlock = some g → B ≤ g ∧ g < w.heap.size := by
  intro g e
  obtain ⟨_, ⟨hv, _⟩ | ⟨g', cap, cur, hv, hg, hh, _⟩⟩ := h
  · rw [hv] at e; simp [Value.ownBlock] at e
  · rw [hv] at e
    simp [Value.ownBlock] at e
    subst e
    exact ⟨hg, World.heap_lt hh⟩
theorem OwnL.keepO {α : Type} {E : Enc α} {t : TypeId} {w w' : World} {B : Nat} {v : Value} {L : List α} (h : OwnL E t w B v L) (hk : ∀ g, v.ownBlock = some g → w'.heap[g]? = w.heap[g]?) : OwnL E t w' B v L := by
  obtain ⟨h1, h2 | ⟨g, cap, cur, hv, hg, hh, rest⟩⟩ := h
  · exact ⟨h1, .inl h2⟩
  · exact ⟨h1, .inr ⟨g, cap, cur, hv, hg, by rw [hk g (by rw [hv]; rfl)]; exact hh, rest⟩⟩

theorem grown_of_below {w w' : World} {row : Option Nat} (h : Below w.heap.size w w') : w.grownBy w' row := ⟨h.os, h.tape, h.output, h.size, fun k hk _ => h.block k hk⟩
theorem grown_cell {w w' : World} {row : Option Nat} (hg : w.grownBy w' row) (a : Addr) (hlt : a.block < w.heap.size) (hne : some a.block ≠ row) : w'.cell? a = w.cell? a := World.cell?_of_block (w := w) (hg.block a.block hlt hne)
theorem OpsRow.set {w : World} {base b i : Nat} {v u : Value} {R : List Rop} (h : OpsRow w base v R) (hb : b < base) : OpsRow (w.setCell ⟨b, i, none⟩ u) base v R := by
  have hbut := But.setCell (M := fun a => a.block = b) w ⟨b, i, none⟩ u rfl
  refine ⟨OwnL.keepO h.own fun g hg => ?_, fun r hr => (h.at_ r hr).keep (Kp.but hbut (fun a ha e => by have e' : a.block = b := e; have := ha.1; omega))⟩
  have hl := OwnL.ltO h.own g hg
  exact hbut.block g hl.2 (fun a e q => by have q' : a.block = b := q; have := hl.1; omega)
/-- where a row lies -/
theorem OpsRow.far {w : World} {base b : Nat} {v : Value} {R : List Rop} (h : OpsRow w base v R) (hb : b < base) : some b ≠ v.ownBlock := fun e => by
  have := (OwnL.ltO h.own b e.symm).1
  omega
end Go.Proofs.YthikdkeanndidaaDoor
