/-
  LAWS: slices whose elements take any number of cells: what they read as, and the append to one of the call's own. Over any program.
-/
import Derived.OwnWalk
import Derived.Laws.AppendOwn
import Derived.Laws.AppendOwnNone
import Derived.WalkKit
import Derived.Below
import Derived.WalkSmall
import Derived.Handy
import Derived.BigQuiet
import Derived.Lib.Hide
import Derived.Deep.RegionLaw
namespace Go.Proofs.Ytbnnokibjccdaaa
open Go Go.RowKit
set_option linter.unusedVariables false

theorem ret_bool {a b : Bool} (h : a = b) : Ending.returned (.bool a) = .returned (.bool b) := by rw [h]
theorem ret_int {k : IntKind} {a b : Int} (h : a = b) : Ending.returned (.int k a) = .returned (.int k b) := by rw [h]
theorem drew_below {B : Nat} {w : World} (n : Nat) : Below B w (w.drewN n) := below_drewN (Below.refl _ _) n
theorem below_box (w : World) (o : Obj) : Below w.heap.size w (w.alloc o) := (Below.refl _ _).alloc (Nat.le_refl _) o
theorem bnext {w w1 w2 : World} (h : Below w.heap.size w w1) (k : Below w1.heap.size w1 w2) : Below w.heap.size w w2 := h.trans (k.mono h.size)
theorem add_lit (b off j : Nat) : (⟨b, off, none⟩ : Addr).add j = ⟨b, off + j, none⟩ := by unfold Addr.add; split <;> simp_all

/-- the cells from ⟨b, off⟩ on hold these values -/
def CellsAt (w : World) (b off : Nat) (cs : List Value) : Prop := ∀ j v, cs[j]? = some v → w.cell? ⟨b, off + j, none⟩ = some v
theorem CellsAt.below {w w' : World} {b off : Nat} {cs : List Value} (h : CellsAt w b off cs) (hb : Below w.heap.size w w') : CellsAt w' b off cs := by
  intro j v hv
  have := h j v hv
  rw [hb.cell (World.block_lt_of_cell? w _ this)]
  exact this
theorem CellsAt.drewN {w : World} {b off : Nat} {cs : List Value} (h : CellsAt w b off cs) (n : Nat) : CellsAt (w.drewN n) b off cs := h.below (drew_below n)
theorem CellsAt.belowN {B : Nat} {w w' : World} {b off : Nat} {cs : List Value} (h : CellsAt w b off cs) (hb : Below B w w') (hB : b < B) : CellsAt w' b off cs := by
  intro j v hv
  have := h j v hv
  rw [hb.cell (p := ⟨b, off + j, none⟩) hB]
  exact this

/-- how an element lies in cells -/
structure Enc (α : Type) where
  cells : α → List Value
  size : Nat
  len : ∀ x, (cells x).length = size
  one : ∀ x, ∀ v ∈ cells x, v.oneCell' = true
  pos : 0 < size

namespace Enc
variable {α : Type} (E : Enc α)
def all (L : List α) : List Value := L.flatMap E.cells
theorem all_nil : E.all [] = [] := rfl
theorem all_cons (x : α) (L : List α) : E.all (x :: L) = E.cells x ++ E.all L := by simp [all]
theorem all_append (L M : List α) : E.all (L ++ M) = E.all L ++ E.all M := by simp [all]
theorem all_length (L : List α) : (E.all L).length = L.length * E.size := by
  induction L with
  | nil => simp [all]
  | cons x L ih => rw [all_cons, List.length_append, ih, E.len, List.length_cons, Nat.succ_mul]; omega
theorem all_one (L : List α) : ∀ v ∈ E.all L, v.oneCell' = true := by
  intro v hv
  simp only [all, List.mem_flatMap] at hv
  obtain ⟨x, _, h⟩ := hv
  exact E.one x v h
theorem all_at (L : List α) (i : Nat) (h : i < L.length) (k : Nat) (hk : k < E.size) : (E.all L)[i * E.size + k]? = (E.cells L[i])[k]? := by
  induction L generalizing i with
  | nil => simp at h
  | cons x L ih =>
    rw [all_cons]
    cases i with
    | zero =>
      rw [Nat.zero_mul, Nat.zero_add, List.getElem?_append_left (by rw [E.len]; exact hk)]
      simp
    | succ i =>
      rw [List.getElem?_append_right (by rw [E.len, Nat.succ_mul]; omega), E.len]
      rw [show (i + 1) * E.size + k - E.size = i * E.size + k by rw [Nat.succ_mul]; omega]
      rw [ih i (by simpa using h)]
      simp
end Enc

/-- v is a slice that reads as L in the world w -/
def SlIs {α : Type} (E : Enc α) (w : World) (v : Value) (L : List α) : Prop :=
  ∃ p cap, v = .slice p L.length cap ∧ L.length ≤ cap ∧ cap ≤ maxLen ∧ (0 < L.length → ∃ b off, p = some ⟨b, off, none⟩ ∧ CellsAt w b off (E.all L))
theorem SlIs.isNil {α : Type} (E : Enc α) (w : World) : SlIs E w (.slice none 0 0) [] := ⟨_, _, rfl, Nat.le_refl _, Nat.zero_le _, fun h => absurd h (by simp)⟩
theorem SlIs.below {α : Type} {E : Enc α} {w w' : World} {v : Value} {L : List α} (h : SlIs E w v L) (hb : Below w.heap.size w w') : SlIs E w' v L := by
  obtain ⟨p, cap, h1, h2, h3, h4⟩ := h
  exact ⟨p, cap, h1, h2, h3, fun h0 => by obtain ⟨b, off, e, hc⟩ := h4 h0; exact ⟨b, off, e, hc.below hb⟩⟩
theorem SlIs.lies {α : Type} {E : Enc α} {w : World} {p : Option Addr} {n cap : Nat} {L : List α} (h : SlIs E w (.slice p n cap) L) : n = L.length ∧ n ≤ cap ∧ cap ≤ maxLen ∧ (0 < n → ∃ b off, p = some ⟨b, off, none⟩ ∧ CellsAt w b off (E.all L)) := by
  obtain ⟨p', cap', e, h1, h2, h3⟩ := h
  simp only [Value.slice.injEq] at e
  obtain ⟨rfl, rfl, rfl⟩ := e
  exact ⟨rfl, h1, h2, h3⟩
theorem CellsAt.elem {α : Type} {E : Enc α} {w : World} {b off : Nat} {L : List α} (h : CellsAt w b off (E.all L)) (i : Nat) (hi : i < L.length) (k : Nat) (hk : k < E.size) (v : Value) (hv : (E.cells L[i])[k]? = some v) : w.cell? ⟨b, off + i * E.size + k, none⟩ = some v := by
  have := h (i * E.size + k) v (by rw [E.all_at L i hi k hk]; exact hv)
  rwa [← Nat.add_assoc] at this

/-- a slice of the call's own that reads as L -/
def OwnL {α : Type} (E : Enc α) (t : TypeId) (w : World) (base : Nat) (v : Value) (L : List α) : Prop := w.ownsRow base t E.size v L.length (E.all L)
theorem OwnL.isNil {α : Type} (E : Enc α) (t : TypeId) (w : World) (base : Nat) : OwnL E t w base (.slice none 0 0) [] := World.ownsRow_nil w base _ _
theorem OwnL.alloc {α : Type} {E : Enc α} {t : TypeId} {w : World} {base : Nat} {v : Value} {L : List α} (h : OwnL E t w base v L) (o : Obj) : OwnL E t (w.alloc o) base v L := World.ownsRow.alloc h o
theorem OwnL.sl {α : Type} {E : Enc α} {t : TypeId} {w : World} {base : Nat} {v : Value} {L : List α} (h : OwnL E t w base v L) : SlIs E w v L := by
  obtain ⟨h1, h2 | ⟨g, cap, cur, e, hb, hg, hn, hm, hs, ht⟩⟩ := h
  · obtain ⟨e, h0⟩ := h2
    have : L = [] := List.eq_nil_of_length_eq_zero h0
    subst this; subst e
    exact SlIs.isNil E w
  · subst e
    refine ⟨_, cap, rfl, hn, hm, fun _ => ⟨g, 0, rfl, ?_⟩⟩
    intro j v hv
    rw [cell_of_row w g (0 + j) cur _ (0, 0) hg]
    rw [← ht, List.getElem?_take] at hv
    split at hv
    · simpa using hv
    · cases hv
theorem OwnL.grown_below {α : Type} {E : Enc α} {t : TypeId} {w w' : World} {base : Nat} {v : Value} {L : List α} (h : OwnL E t w base v L) (hg : w.grownBy w' v.ownBlock) (hb : base ≤ w.heap.size) : Below base w w' :=
  (Below.refl base w).grown hg hb (fun k hk => (World.ownsRow.lt h k hk).1)
theorem OwnL.drewN {α : Type} {E : Enc α} {t : TypeId} {w : World} {base : Nat} {v : Value} {L : List α} (h : OwnL E t w base v L) (n : Nat) : OwnL E t (w.drewN n) base v L := h
/-- a callee that leaves all that is there leaves the slice of the call's own -/
theorem OwnL.below {α : Type} {E : Enc α} {t : TypeId} {w w' : World} {base : Nat} {v : Value} {L : List α} (h : OwnL E t w base v L) (hb : Below w.heap.size w w') : OwnL E t w' base v L := by
  obtain ⟨h1, h2 | ⟨g, cap, cur, e, hb', hg, rest⟩⟩ := h
  · exact ⟨h1, .inl h2⟩
  · have hlt : g < w.heap.size := by
      by_cases hlt : g < w.heap.size
      · exact hlt
      · rw [Array.getElem?_eq_none (by omega)] at hg; cases hg
    exact ⟨h1, .inr ⟨g, cap, cur, e, hb', by rw [hb.block g hlt]; exact hg, rest⟩⟩

/-- the elements M lie from p on -/
def LiesL {α : Type} (E : Enc α) (w : World) (p : Option Addr) (M : List α) : Prop := 0 < M.length → ∃ b off, p = some ⟨b, off, none⟩ ∧ CellsAt w b off (E.all M)

theorem wpList_appendL {α : Type} {E : Enc α} {P : Program} {w : World} {ops : Array Oper} {rest : List Oper} {o : Oper} {a : Act} {Q : Exit → Act → World → Prop} {sT eT : TypeId} {z : Value} {bytes : Nat}
    (hu : P.underlying sT = some (.slice eT)) (hinfo : (P.info? eT).map (fun i => (i.zero, i.size, i.bytes)) = some (some z, E.size, bytes)) (hzs : z.cells.size = E.size)
    (hgd : o.guard = none) (s x : Operand)
    (ho : o.op = .call { callee := .builtin .append, args := #[s, x], argTypes := #[sT, sT] })
    (base : Nat) (v : Value) (L : List α) (hs : a.eval s = v) (hown : OwnL E eT w base v L) (p : Option Addr) (m c : Nat) (M : List α) (hx : a.eval x = .slice p m c) (hM : m = M.length) (hl : LiesL E w p M) (hp : p = none → c = 0)
    (hL : Hid (L.length + M.length ≤ maxLen)) (hL2 : Hid ((L.length + M.length) * bytes ≤ 140737488355328)) (hbase : base ≤ w.heap.size)
    (h : ∀ v' w', OwnL E eT w' base v' (L ++ M) → Below base w w' → wpList P ops Q rest (a.put o.dst v') w') : wpList P ops Q (o :: rest) a w := by
  obtain ⟨i0, hi, hz0, hz1, hz2⟩ := info_parts hinfo
  subst hM
  by_cases h0 : M = []
  · subst h0
    cases p with
    | none =>
      have hc0 := hp rfl
      subst hc0
      exact wpList_append_own_none hgd s x _ ho base eT i0 E.size hu hi v L.length (E.all L) hs hown hx (h v w (by simpa using hown) (Below.refl _ _))
    | some ad =>
      refine wpList_append_own w hgd s x sT ho base eT i0 _ E.size bytes hu hi hz0 hz1 hz2 hzs E.pos v L.length (E.all L) hs hown ad 0 c [] hx (by simp) (fun j u hu => by simp at hu) (fun u hu => by simp at hu) hL.out hL2.out hbase ?_
      intro v' w' h1 h2 _
      exact h v' w' (by simpa [OwnL] using h1) (hown.grown_below h2 hbase)
  · obtain ⟨b, off, rfl, hcl⟩ := hl (List.length_pos_iff.2 h0)
    refine wpList_append_own w hgd s x sT ho base eT i0 _ E.size bytes hu hi hz0 hz1 hz2 hzs E.pos v L.length (E.all L) hs hown ⟨b, off, none⟩ M.length c (E.all M) hx (E.all_length M) (fun j u hu => by rw [add_lit]; exact hcl j u hu) (E.all_one M) hL.out hL2.out hbase ?_
    intro v' w' h1 h2 _
    refine h v' w' ?_ (hown.grown_below h2 hbase)
    unfold OwnL
    rw [List.length_append, E.all_append]
    exact h1

/-- the same, as one step of a region that draws its order -/
theorem step_appendL {α : Type} {E : Enc α} {P : Program} {w : World} {ops : Array Oper} {o : Oper} {a : Act} {K : Act → World → Prop} {Q : Exit → Act → World → Prop} {F : Prop} {sT eT : TypeId} {z : Value} {bytes : Nat}
    (hu : P.underlying sT = some (.slice eT)) (hinfo : (P.info? eT).map (fun i => (i.zero, i.size, i.bytes)) = some (some z, E.size, bytes)) (hzs : z.cells.size = E.size)
    (hgd : o.guard = none) (s x : Operand)
    (ho : o.op = .call { callee := .builtin .append, args := #[s, x], argTypes := #[sT, sT] })
    (base : Nat) (v : Value) (L : List α) (hs : a.eval s = v) (hown : OwnL E eT w base v L) (b off : Nat) (m c : Nat) (M : List α) (hx : a.eval x = .slice (some ⟨b, off, none⟩) m c) (hM : m = M.length) (hl : CellsAt w b off (E.all M))
    (hL : Hid (L.length + M.length ≤ maxLen)) (hL2 : Hid ((L.length + M.length) * bytes ≤ 140737488355328)) (hbase : base ≤ w.heap.size)
    (h : ∀ v' w', OwnL E eT w' base v' (L ++ M) → Below base w w' → K (a.put o.dst v') w') : if Region.wanted o (yielded ops a.tmps) = true then Oper.wp P o a w K Q else F := by
  have hw : Region.wanted o (yielded ops a.tmps) = true := by simp [Region.wanted, hgd]
  rw [if_pos hw]
  obtain ⟨i0, hi, hz0, hz1, hz2⟩ := info_parts hinfo
  subst hM
  refine wp_append_own w s x sT ho base eT i0 _ E.size bytes hu hi hz0 hz1 hz2 hzs E.pos v L.length (E.all L) hs hown ⟨b, off, none⟩ M.length c (E.all M) hx (E.all_length M) (fun j u hu => by rw [add_lit]; exact hl j u hu) (E.all_one M) hL.out hL2.out hbase ?_
  intro v' w' h1 h2 _
  refine h v' w' ?_ (hown.grown_below h2 hbase)
  unfold OwnL
  rw [List.length_append, E.all_append]
  exact h1
end Go.Proofs.Ytbnnokibjccdaaa
