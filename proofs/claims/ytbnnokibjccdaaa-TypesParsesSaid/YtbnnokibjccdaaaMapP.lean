/-
  LAWS: maps, whatever their elements: what they hold is a plain function of their keys. Over any program.
-/
import Derived.Test.YtbnnokibjccdaaaBase
import Derived.Maps.Ext
import Derived.Maps.RangeWalk
import Derived.StringKeys
namespace Go.Proofs.Ytbnnokibjccdaaa
open Go Go.RowKit Go.Maps
set_option linter.unusedVariables false
set_option linter.unusedSectionVars false

/-- an element reads as itself -/
def tokR (v : Value) : Option (DataW Value × List MemPlace) := some (.held v, [])
theorem tokR_inv {v : Value} {d : Value} {ps : List MemPlace} (h : tokR v = some (.held d, ps)) : v = d := by
  unfold tokR at h
  simp only [Option.some.injEq, Prod.mk.injEq, DataW.held.injEq] at h
  exact h.1

/-- the keys of a type: plain things, how they lie as values -/
structure KeyT (P : Program) (k : TypeId) (α : Type) where
  ok : α → Prop
  mkv : α → Value
  lit : α → Lit
  keyed : Keyed P k
  reads : ∀ x, ok x → keyOf P k (mkv x) = some (lit x)
  inj : ∀ x y, mkv x = mkv y → x = y
  inv : ∀ v l, keyOf P k v = some l → ∃ x, ok x ∧ v = mkv x

namespace KeyT
variable {P : Program} {k : TypeId} {α : Type} (K : KeyT P k α)
theorem lit_inj {x y : α} (hx : K.ok x) (hy : K.ok y) (h : K.lit x = K.lit y) : x = y := by
  have h1 := K.reads x hx
  have h2 := K.reads y hy
  rw [h] at h1
  exact K.inj _ _ (K.keyed.inj h1 h2)
theorem isKey {x : α} (hx : K.ok x) : WideAt.IsKeyLit (K.lit x) := K.keyed.key (K.reads x hx)
end KeyT

def updM {α β : Type} [DecidableEq α] (f : α → Option β) (x : α) (o : Option β) : α → Option β := fun y => if y = x then o else f y
theorem updM_same {α β : Type} [DecidableEq α] (f : α → Option β) (x : α) (o : Option β) : updM f x o x = o := by simp [updM]
theorem updM_ne {α β : Type} [DecidableEq α] (f : α → Option β) {x y : α} (o : Option β) (h : y ≠ x) : updM f x o y = f y := by simp [updM, h]

section
variable {P : Program} {k : TypeId} {α β : Type} [DecidableEq α]

/-- a datum that holds f -/
structure Holds (K : KeyT P k α) (val : β → Value) (D : DataW Value) (f : α → Option β) : Prop where
  has : ∀ x, K.ok x → Maps.has D (K.lit x) = (f x).isSome
  at_ : ∀ x, K.ok x → ∀ y, f x = some y → ∀ zd, D.atKey (K.lit x) zd = .held (val y)

/-- block b is a map of cnt entries that holds f x at x -/
def MapAt (K : KeyT P k α) (val : β → Value) (w : World) (b cnt : Nat) (f : α → Option β) : Prop :=
  ∃ D : DataW Value, w.ownsMap P k tokR b cnt D ∧ Maps.size D = cnt ∧ Holds K val D f

variable {K : KeyT P k α} {val : β → Value} {w : World} {b cnt : Nat} {f : α → Option β}

theorem MapAt.made (K : KeyT P k α) (val : β → Value) (w : World) : MapAt K val (w.alloc (.map #[] 0)) w.heap.size 0 (fun _ => none) :=
  ⟨.map [], World.ownsMap_made _ _ _ _, rfl, ⟨fun _ _ => rfl, fun _ _ _ h => by cases h⟩⟩

theorem MapAt.lt (h : MapAt K val w b cnt f) : b < w.heap.size := by obtain ⟨D, h1, _⟩ := h; exact h1.lt

theorem MapAt.same {w' : World} (h : MapAt K val w b cnt f) (e : w'.heap[b]? = w.heap[b]?) : MapAt K val w' b cnt f := by
  obtain ⟨D, ⟨es, clock, hb, r⟩, h2⟩ := h
  exact ⟨D, ⟨es, clock, by rw [e]; exact hb, r⟩, h2⟩
theorem MapAt.below {w' : World} {B : Nat} (h : MapAt K val w b cnt f) (hb : Below B w w') (hB : b < B) : MapAt K val w' b cnt f := h.same (hb.block b hB)
theorem MapAt.kept {w' : World} {row : Option Nat} (h : MapAt K val w b cnt f) (hg : w.grownBy w' row) (hr : some b ≠ row) : MapAt K val w' b cnt f := h.same (hg.block b h.lt hr)
theorem MapAt.alloc (h : MapAt K val w b cnt f) (o : Obj) : MapAt K val (w.alloc o) b cnt f := h.kept (World.grownBy_alloc w o none) (by simp)
theorem MapAt.drewN (h : MapAt K val w b cnt f) (n : Nat) : MapAt K val (w.drewN n) b cnt f := h

/-- tight: as many entries as are counted -/
theorem owns_tight {D : DataW Value} {n : Nat} (h : w.ownsMap P k tokR b n D) : w.ownsMap P k tokR b (Maps.size D) D := by
  obtain ⟨es, clock, hb, F, hs, rfl⟩ := h
  exact ⟨es, clock, hb, F, Nat.le_of_eq (by simp [Maps.size, length_sorted]), rfl⟩

theorem MapAt.look {t e : TypeId} (h : MapAt K val w b cnt f) (ht : P.underlying t = some (.map k e)) {z : Value} (hz : (zeroValue e).run P w = .ok z w) (x : α) (hx : K.ok x) :
    (Instr.lookup t (.map (some b)) (K.mkv x) false).run P w = .ok (match f x with | some y => val y | none => z) w := by
  obtain ⟨D, h1, _, h2⟩ := h
  obtain ⟨v, ps, hrun, hv⟩ := h1.lookup K.keyed ht hz (zd := .held z) (zp := []) rfl (K.reads x hx)
  rw [hrun]
  congr 1
  cases e : f x with
  | some y => rw [h2.at_ x hx y e] at hv; exact tokR_inv hv
  | none =>
    have hh := h2.has x hx
    rw [e] at hh
    rw [Maps.atKey_of_not_has hh] at hv
    exact tokR_inv hv

theorem MapAt.look_ok {t e : TypeId} (h : MapAt K val w b cnt f) (ht : P.underlying t = some (.map k e)) {z : Value} (hz : (zeroValue e).run P w = .ok z w) (x : α) (hx : K.ok x) :
    (Instr.lookup t (.map (some b)) (K.mkv x) true).run P w = .ok (.tuple #[match f x with | some y => val y | none => z, .bool (f x).isSome]) w := by
  obtain ⟨D, h1, _, h2⟩ := h
  obtain ⟨v, ps, hrun, hv⟩ := h1.look_ok K.keyed ht hz (zd := .held z) (zp := []) rfl (K.reads x hx)
  rw [hrun, h2.has x hx]
  have : v = match f x with | some y => val y | none => z := by
    cases e : f x with
    | some y => rw [h2.at_ x hx y e] at hv; exact tokR_inv hv
    | none =>
      have hh := h2.has x hx
      rw [e] at hh
      rw [Maps.atKey_of_not_has hh] at hv
      exact tokR_inv hv
  rw [this]

theorem Holds.put {D : DataW Value} (h : Holds K val D f) (hD : IsMap D) (x : α) (hx : K.ok x) (y : β) : Holds K val (D.put (K.lit x) (.held (val y))) (updM f x (some y)) := by
  refine ⟨fun u hu => ?_, fun u hu y' hy' zd => ?_⟩
  · by_cases e : u = x
    · subst e; rw [updM_same, Maps.has_put_same hD (K.isKey hx)]; rfl
    · rw [updM_ne _ _ e, Maps.has_put_other (fun q => e (K.lit_inj hu hx q)), h.has u hu]
  · by_cases e : u = x
    · subst e; rw [updM_same] at hy'; cases hy'; exact Maps.atKey_put_same hD (K.isKey hx) _ _
    · rw [updM_ne _ _ e] at hy'; rw [Maps.atKey_put_other (fun q => e (K.lit_inj hu hx q))]; exact h.at_ u hu y' hy' zd
theorem Holds.del {D : DataW Value} (h : Holds K val D f) (x : α) (hx : K.ok x) : Holds K val (D.del (K.lit x)) (updM f x none) := by
  refine ⟨fun u hu => ?_, fun u hu y' hy' zd => ?_⟩
  · by_cases e : u = x
    · subst e; rw [updM_same, Maps.has_del_same]; rfl
    · rw [updM_ne _ _ e, Maps.has_del_other (fun q => e (K.lit_inj hu hx q)), h.has u hu]
  · by_cases e : u = x
    · subst e; rw [updM_same] at hy'; cases hy'
    · rw [updM_ne _ _ e] at hy'; rw [Maps.atKey_del_other (fun q => e (K.lit_inj hu hx q))]; exact h.at_ u hu y' hy' zd

/-- how many there are behind a store -/
def cntPut (f : α → Option β) (x : α) (cnt : Nat) : Nat := if (f x).isSome then cnt else cnt + 1

theorem MapAt.store {t e : TypeId} (h : MapAt K val w b cnt f) (ht : P.underlying t = some (.map k e)) (hn : cnt < maxLen) (x : α) (hx : K.ok x) (y : β) :
    ∃ w', (Instr.mapUpdate t (.map (some b)) (K.mkv x) (val y)).run P w = .ok () w' ∧ MapAt K val w' b (cntPut f x cnt) (updM f x (some y)) ∧ w.mapTurned w' b := by
  obtain ⟨D, h1, hs, h2⟩ := h
  obtain ⟨w', hrun, r1, r2⟩ := h1.store K.keyed ht hn (K.reads x hx) (d := .held (val y)) (ps := []) rfl
  refine ⟨w', hrun, ⟨_, ?_, ?_, h2.put (h1.isMap) x hx y⟩, r2⟩
  · have := owns_tight r1
    rw [Maps.size_put (h1.tidy K.keyed) _, h2.has x hx, hs] at this
    exact this
  · rw [Maps.size_put (h1.tidy K.keyed) _, h2.has x hx, hs]; rfl

theorem MapAt.drop {t e : TypeId} (h : MapAt K val w b cnt f) (ht : P.underlying t = some (.map k e)) (x : α) (hx : K.ok x) (ty : TypeId) :
    ∃ w' cnt', (Builtin.delete_ #[t, k] ty #[.map (some b), K.mkv x]).run P w = .ok (.tuple #[]) w' ∧ MapAt K val w' b cnt' (updM f x none) ∧ cnt' ≤ cnt ∧ w.mapTurned w' b := by
  obtain ⟨D, h1, hs, h2⟩ := h
  obtain ⟨w', hrun, r1, r2⟩ := h1.drop K.keyed ht (K.reads x hx) ty
  exact ⟨w', _, hrun, ⟨_, owns_tight r1, rfl, h2.del x hx⟩, r1.size_le, r2⟩

theorem MapAt.len {t e : TypeId} (h : MapAt K val w b cnt f) (ht : P.underlying t = some (.map k e)) (ty : TypeId) : (Builtin.len_ #[t] ty #[.map (some b)]).run P w = .ok (.int .i64 cnt) w := by
  obtain ⟨D, h1, hs, h2⟩ := h
  rw [h1.len ht ty, hs]

/-! ### ranging -/
/-- block r goes through the map in block b, which holds f; left: what is still to come -/
def RangeAt (K : KeyT P k α) (val : β → Value) (w : World) (b r n : Nat) (f : α → Option β) (left : α → Bool) (cnt : Nat) : Prop :=
  ∃ D lf, w.ranges P k tokR b r n D lf cnt ∧ Maps.size D = n ∧ Holds K val D f ∧ ∀ x, K.ok x → lf (K.lit x) = left x

theorem RangeAt.map {r n : Nat} {left : α → Bool} (h : RangeAt K val w b r n f left cnt) : MapAt K val w b n f := by
  obtain ⟨D, lf, h1, h2, h3, _⟩ := h
  exact ⟨D, h1.owns, h2, h3⟩
theorem RangeAt.left_eq {r n : Nat} {left : α → Bool} (h : RangeAt K val w b r n f left cnt) : w.rangeLeft b r = cnt := by
  obtain ⟨D, lf, h1, _⟩ := h
  exact h1.left_eq
theorem RangeAt.ne {r n : Nat} {left : α → Bool} (h : RangeAt K val w b r n f left cnt) : r ≠ b := by obtain ⟨D, lf, h1, _⟩ := h; exact h1.ne
theorem RangeAt.lt {r n : Nat} {left : α → Bool} (h : RangeAt K val w b r n f left cnt) : r < w.heap.size := by obtain ⟨D, lf, h1, _⟩ := h; exact h1.lt
theorem RangeAt.kept {r n : Nat} {left : α → Bool} {w' : World} {row : Option Nat} (h : RangeAt K val w b r n f left cnt) (hg : w.grownBy w' row) (hb : some b ≠ row) (hr : some r ≠ row) : RangeAt K val w' b r n f left cnt := by
  obtain ⟨D, lf, h1, h2⟩ := h
  exact ⟨D, lf, h1.kept hg hb hr, h2⟩
theorem RangeAt.same {r n : Nat} {left : α → Bool} {w' : World} (h : RangeAt K val w b r n f left cnt) (e1 : w'.heap[b]? = w.heap[b]?) (e2 : w'.heap[r]? = w.heap[r]?) : RangeAt K val w' b r n f left cnt := by
  obtain ⟨D, lf, ⟨es, clock, since, seen, c0, hb, F, hs, hD, hr, rest⟩, h2⟩ := h
  exact ⟨D, lf, ⟨es, clock, since, seen, c0, e1.trans hb, F, hs, hD, e2.trans hr, rest⟩, h2⟩

theorem MapAt.range {t e : TypeId} (h : MapAt K val w b cnt f) (ht : P.underlying t = some (.map k e)) :
    ∃ w', (Instr.range t (.map (some b))).run P w = .ok (.pointer (some ⟨w.heap.size, 0, none⟩)) w' ∧ RangeAt K val w' b w.heap.size cnt f (fun x => (f x).isSome) cnt ∧ w.grownBy w' none ∧ w'.heap.size = w.heap.size + 1 := by
  obtain ⟨D, h1, hs, h2⟩ := h
  obtain ⟨w', hrun, r1, r2, r3⟩ := h1.range K.keyed ht
  exact ⟨w', hrun, ⟨D, _, by rw [hs] at r1; exact r1, hs, h2, h2.has⟩, r2, r3⟩

theorem RangeAt.next {r n : Nat} {left : α → Bool} (h : RangeAt K val w b r n f left cnt) (hsup : ∀ x, left x = true → (f x).isSome = true) (ty : TypeId) :
    (cnt = 0 ∧ (∀ x, K.ok x → left x = false) ∧ (Instr.next (.pointer (some ⟨r, 0, none⟩)) false ty).run P w = .ok (.tuple #[.bool false]) w) ∨
    ∃ x y w' cnt', K.ok x ∧ left x = true ∧ f x = some y ∧ (Instr.next (.pointer (some ⟨r, 0, none⟩)) false ty).run P w = .ok (.tuple #[.bool true, K.mkv x, val y]) w' ∧
      RangeAt K val w' b r n f (fun z => left z && !decide (z = x)) cnt' ∧ cnt' < cnt ∧ w.grownBy w' (some r) ∧ w'.heap.size = w.heap.size ∧ (Instr.entry (.pointer (some ⟨r, 0, none⟩))).run P w' = .ok (.tuple #[K.mkv x, val y]) w' := by
  obtain ⟨D, lf, h1, h2, h3, h4⟩ := h
  rcases h1.next K.keyed ty with ⟨h0, hl, hrun⟩ | ⟨key, v, kl, y, w', cnt', hkey, hlk, hv, hat, hrun, hrg, hlt, hgr, hsz, hen⟩
  · exact .inl ⟨h0, fun x hx => by rw [← h4 x hx]; exact hl _, hrun⟩
  · obtain ⟨x, hx, rfl⟩ := K.inv key kl hkey
    have hkl : kl = K.lit x := by have := K.reads x hx; rw [hkey] at this; exact Option.some.inj this
    subst hkl
    have hlx : left x = true := by rw [← h4 x hx]; exact hlk
    obtain ⟨u, hu⟩ := Option.isSome_iff_exists.1 (hsup x hlx)
    have hvu : v = val u := by
      have e1 := h3.at_ x hx u hu (.held v)
      rw [hat] at e1
      unfold tokR at hv
      simp only [Option.some.injEq] at hv
      subst hv
      simpa using e1
    subst hvu
    refine .inr ⟨x, u, w', cnt', hx, hlx, hu, hrun, ⟨D, _, hrg, h2, h3, fun z hz => ?_⟩, hlt, hgr, hsz, hen⟩
    show (lf (K.lit z) && !(K.lit z).sameKey (K.lit x)) = _
    rw [h4 z hz]
    by_cases e : z = x
    · subst e; rw [WideAt.sameKey_self (K.isKey hz)]; simp
    · rw [Maps.sameKey_ne (fun q => e (K.lit_inj hz hx q))]; simp [e]
end

/-! ### at the operations -/
theorem run_makeMapN {P : Program} (t : TypeId) {k e : TypeId} (ht : P.underlying t = some (.map k e)) (n : Int) (w : World) : (Instr.makeMap t (some (.int .i64 n))).run P w = .ok (.map (some w.heap.size)) (w.alloc (.map #[] 0)) := by
  simp [Instr.makeMap, run_underlying ht, asInt, Result.andThen]
  rfl

section
variable {P : Program} {k : TypeId} {α β : Type} [DecidableEq α] {K : KeyT P k α} {val : β → Value} {b cnt : Nat} {f : α → Option β}
variable (w : World) {ops : Array Oper} {rest : List Oper} {o : Oper} {a : Act} {Q : Exit → Act → World → Prop}

theorem wpList_look {v : Value} (hg : o.guard = none) (m x : Operand) (t e : TypeId) (hop : o.op = Op.lookup t m x false) (ht : P.underlying t = some (.map k e)) {z : Value} (hz : ∀ w, (zeroValue e).run P w = .ok z w)
    (hm : a.eval m = .map (some b)) (h : MapAt K val w b cnt f) (u : α) (hx : a.eval x = K.mkv u) (hu : K.ok u) (hv : v = match f u with | some y => val y | none => z)
    (hK : wpList P ops Q rest (a.put o.dst v) w) : wpList P ops Q (o :: rest) a w := by
  refine wpList_plain hg fun K' hK' => ?_
  unfold Oper.wp
  subst hv
  simp [execOp, hop, hm, hx, h.look ht (hz w) u hu, Result.andThen]
  exact hK' _ _ hK

theorem wpList_look_ok {v : Value} (hg : o.guard = none) (m x : Operand) (t e : TypeId) (hop : o.op = Op.lookup t m x true) (ht : P.underlying t = some (.map k e)) {z : Value} (hz : ∀ w, (zeroValue e).run P w = .ok z w)
    (hm : a.eval m = .map (some b)) (h : MapAt K val w b cnt f) (u : α) (hx : a.eval x = K.mkv u) (hu : K.ok u) (hv : v = .tuple #[match f u with | some y => val y | none => z, .bool (f u).isSome])
    (hK : wpList P ops Q rest (a.put o.dst v) w) : wpList P ops Q (o :: rest) a w := by
  refine wpList_plain hg fun K' hK' => ?_
  unfold Oper.wp
  subst hv
  simp [execOp, hop, hm, hx, h.look_ok ht (hz w) u hu, Result.andThen]
  exact hK' _ _ hK

theorem wpList_store (hg : o.guard = none) (m x v : Operand) (t e : TypeId) (hop : o.op = Op.mapUpdate t m x v) (ht : P.underlying t = some (.map k e)) (hn : cnt < maxLen)
    (hm : a.eval m = .map (some b)) (h : MapAt K val w b cnt f) (u : α) (hx : a.eval x = K.mkv u) (hu : K.ok u) (y : β) (hv : a.eval v = val y)
    (hK : ∀ w', MapAt K val w' b (cntPut f u cnt) (updM f u (some y)) → w.mapTurned w' b → wpList P ops Q rest (a.put o.dst undef) w') : wpList P ops Q (o :: rest) a w := by
  refine wpList_plain hg fun K' hK' => ?_
  obtain ⟨w', hrun, r1, r2⟩ := h.store ht hn u hu y
  unfold Oper.wp
  simp [execOp, hop, hm, hx, hv, hrun, Result.andThen]
  exact hK' _ _ (hK w' r1 r2)

theorem wpList_drop (hg : o.guard = none) (m x : Operand) (t e : TypeId) (hop : o.op = Op.call { callee := Callee.builtin Builtin.delete, args := #[m, x], argTypes := #[t, k] }) (ht : P.underlying t = some (.map k e))
    (hm : a.eval m = .map (some b)) (h : MapAt K val w b cnt f) (u : α) (hx : a.eval x = K.mkv u) (hu : K.ok u)
    (hK : ∀ w' cnt', MapAt K val w' b cnt' (updM f u none) → cnt' ≤ cnt → w.mapTurned w' b → wpList P ops Q rest (a.put o.dst (.tuple #[])) w') : wpList P ops Q (o :: rest) a w := by
  refine wpList_plain hg fun K' hK' => ?_
  obtain ⟨w', cnt', hrun, r1, r2, r3⟩ := h.drop ht u hu o.type
  unfold Oper.wp
  simp [execOp, hop, resolve, invoke, builtin, hm, hx, hrun, Result.andThen]
  exact hK' _ _ (hK w' cnt' r1 r2 r3)

theorem wpList_range (hg : o.guard = none) (m : Operand) (t e : TypeId) (hop : o.op = Op.range t m) (ht : P.underlying t = some (.map k e))
    (hm : a.eval m = .map (some b)) (h : MapAt K val w b cnt f)
    (hK : ∀ w', RangeAt K val w' b w.heap.size cnt f (fun x => (f x).isSome) cnt → w.grownBy w' none → w'.heap.size = w.heap.size + 1 → wpList P ops Q rest (a.put o.dst (.pointer (some ⟨w.heap.size, 0, none⟩))) w') : wpList P ops Q (o :: rest) a w := by
  refine wpList_plain hg fun K' hK' => ?_
  obtain ⟨w', hrun, r1, r2, r3⟩ := h.range ht
  unfold Oper.wp
  simp [execOp, hop, hm, hrun, Result.andThen]
  exact hK' _ _ (hK w' r1 r2 r3)

theorem wpList_next {r n : Nat} {left : α → Bool} (hg : o.guard = none) (it : Operand) (hop : o.op = Op.next it false) (hit : a.eval it = .pointer (some ⟨r, 0, none⟩)) (h : RangeAt K val w b r n f left cnt) (hsup : ∀ x, left x = true → (f x).isSome = true)
    (hDone : cnt = 0 → (∀ x, K.ok x → left x = false) → wpList P ops Q rest (a.put o.dst (.tuple #[.bool false])) w)
    (hMore : ∀ (x : α) (y : β) (w' : World) (cnt' : Nat), K.ok x → left x = true → f x = some y → RangeAt K val w' b r n f (fun z => left z && !decide (z = x)) cnt' → cnt' < cnt → w.grownBy w' (some r) → w'.heap.size = w.heap.size →
      (Instr.entry (.pointer (some ⟨r, 0, none⟩))).run P w' = .ok (.tuple #[K.mkv x, val y]) w' → wpList P ops Q rest (a.put o.dst (.tuple #[.bool true, K.mkv x, val y])) w') : wpList P ops Q (o :: rest) a w := by
  refine wpList_plain hg fun K' hK' => ?_
  unfold Oper.wp
  rcases h.next hsup o.type with ⟨h0, hl, hrun⟩ | ⟨x, y, w', cnt', hx, hlx, hfx, hrun, hrg, hlt, hgr, hsz, hen⟩
  · simp [execOp, hop, hit, hrun, Result.andThen]
    exact hK' _ _ (hDone h0 hl)
  · simp [execOp, hop, hit, hrun, Result.andThen]
    exact hK' _ _ (hMore x y w' cnt' hx hlx hfx hrg hlt hgr hsz hen)
end

/-! ### keys: strings, integers -/
def strKeys {P : Program} {k : TypeId} (hk : P.underlying k = some .string) : KeyT P k ByteArray where
  ok s := s.size ≤ maxLen
  mkv s := .string s
  lit s := .string s.data.toList
  keyed := string_keyed hk
  reads x hx := Go.WideMaps.keyOf_string_mk hk hx
  inj x y h := by injection h
  inv v l h := by
    cases v <;> simp [keyOf, hk, mapKey] at h
    exact ⟨_, h.1, rfl⟩
def intKeys {P : Program} {k : TypeId} {q : IntKind} (hk : P.underlying k = some (.int q)) : KeyT P k Int where
  ok n := (Lit.int q n).wf = true
  mkv n := .int q n
  lit n := .int q n
  keyed := int_keyed hk
  reads x hx := keyOf_int_mk hk hx
  inj x y h := by injection h
  inv v l h := by
    obtain ⟨x, e1, e2, hw⟩ := Maps.keyOf_int_inv hk h
    exact ⟨x, hw, e1⟩
end Go.Proofs.Ytbnnokibjccdaaa
