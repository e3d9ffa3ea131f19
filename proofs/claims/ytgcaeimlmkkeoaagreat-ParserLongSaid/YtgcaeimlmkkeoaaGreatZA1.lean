/-
  LAWS: slices whose elements take any number of cells: what they read as, and the append to one of the call's own. Over any program.
-/
import Derived.OwnWalk
import Derived.Laws.AppendOwn
import Derived.Laws.AppendOwnNone
import Derived.WalkKit
import Derived.Below
import Derived.WalkSmall
import Derived.Handy
import Derived.BigQuiet
import Derived.Lib.Hide
import Derived.Deep.RegionLaw
import Derived.Still
import Derived.Deep.QuietTactic
import Derived.KernelRfl
import Derived.Test.YtgcaeimlmkkeoaaGreatChecked
import Derived.WalkSpells
import Derived.WalkLawsBesides
import Derived.StillTail
set_option linter.unusedVariables false
namespace Go.Proofs.YtgcaeimlmkkeoaaGreat
open Go Go.RowKit
theorem ret_bool {a b : Bool} (h : a = b) : Ending.returned (.bool a) = .returned (.bool b) := by rw [h]
theorem ret_int {k : IntKind} {a b : Int} (h : a = b) : Ending.returned (.int k a) = .returned (.int k b) := by rw [h]
theorem drew_below {B : Nat} {w : World} (n : Nat) : Below B w (w.drewN n) := below_drewN (Below.refl _ _) n
theorem below_box (w : World) (o : Obj) : Below w.heap.size w (w.alloc o) := (Below.refl _ _).alloc (Nat.le_refl _) o
theorem bnext {w w1 w2 : World} (h : Below w.heap.size w w1) (k : Below w1.heap.size w1 w2) : Below w.heap.size w w2 := h.trans (k.mono h.size)
theorem add_lit (b off j : Nat) : (⟨b, off, none⟩ : Addr).add j = ⟨b, off + j, none⟩ := by unfold Addr.add; split <;> simp_all
/-- the cells from ⟨b, off⟩ on hold these values -/
def CellsAt (w : World) (b off : Nat) (cs : List Value) : Prop := ∀ j v, cs[j]? = some v → w.cell? ⟨b, off + j, none⟩ = some v
theorem CellsAt.below {w w' : World} {b off : Nat} {cs : List Value} (h : CellsAt w b off cs) (hb : Below w.heap.size w w') : CellsAt w' b off cs := by
 intro j v hv
 have := h j v hv
 rw [hb.cell (World.block_lt_of_cell? w _ this)]
 exact this
theorem CellsAt.drewN {w : World} {b off : Nat} {cs : List Value} (h : CellsAt w b off cs) (n : Nat) : CellsAt (w.drewN n) b off cs := h.below (drew_below n)
/-- how an element lies in cells -/
structure Enc (α : Type) where
 cells : α → List Value
 size : Nat
 len : ∀ x, (cells x).length = size
 one : ∀ x, ∀ v ∈ cells x, v.oneCell' = true
 pos : 0 < size
namespace Enc
variable {α : Type} (E : Enc α)
def all (L : List α) : List Value := L.flatMap E.cells
theorem all_nil : E.all [] = [] := rfl
theorem all_cons (x : α) (L : List α) : E.all (x :: L) = E.cells x ++ E.all L := by simp [all]
theorem all_append (L M : List α) : E.all (L ++ M) = E.all L ++ E.all M := by simp [all]
theorem all_length (L : List α) : (E.all L).length = L.length * E.size := by
 induction L with
 | nil => simp [all]
 | cons x L ih => rw [all_cons, List.length_append, ih, E.len, List.length_cons, Nat.succ_mul]; omega
theorem all_one (L : List α) : ∀ v ∈ E.all L, v.oneCell' = true := by
 intro v hv
 simp only [all, List.mem_flatMap] at hv
 obtain ⟨x, _, h⟩ := hv
 exact E.one x v h
theorem all_at (L : List α) (i : Nat) (h : i < L.length) (k : Nat) (hk : k < E.size) : (E.all L)[i * E.size + k]? = (E.cells L[i])[k]? := by
 induction L generalizing i with
 | nil => simp at h
 | cons x L ih =>
  rw [all_cons]
  cases i with
  | zero =>
   rw [Nat.zero_mul, Nat.zero_add, List.getElem?_append_left (by rw [E.len]; exact hk)]
   simp
  | succ i =>
   rw [List.getElem?_append_right (by rw [E.len, Nat.succ_mul]; omega), E.len]
   rw [show (i + 1) * E.size + k - E.size = i * E.size + k by rw [Nat.succ_mul]; omega]
   rw [ih i (by simpa using h)]
   simp
end Enc
/-- v is a slice that reads as L in the world w -/
def SlIs {α : Type} (E : Enc α) (w : World) (v : Value) (L : List α) : Prop :=
 ∃ p cap, v = .slice p L.length cap ∧ L.length ≤ cap ∧ cap ≤ maxLen ∧ (0 < L.length → ∃ b off, p = some ⟨b, off, none⟩ ∧ CellsAt w b off (E.all L))
theorem SlIs.isNil {α : Type} (E : Enc α) (w : World) : SlIs E w (.slice none 0 0) [] := ⟨_, _, rfl, Nat.le_refl _, Nat.zero_le _, fun h => absurd h (by simp)⟩
theorem SlIs.below {α : Type} {E : Enc α} {w w' : World} {v : Value} {L : List α} (h : SlIs E w v L) (hb : Below w.heap.size w w') : SlIs E w' v L := by
 obtain ⟨p, cap, h1, h2, h3, h4⟩ := h
 exact ⟨p, cap, h1, h2, h3, fun h0 => by obtain ⟨b, off, e, hc⟩ := h4 h0; exact ⟨b, off, e, hc.below hb⟩⟩
theorem SlIs.lies {α : Type} {E : Enc α} {w : World} {p : Option Addr} {n cap : Nat} {L : List α} (h : SlIs E w (.slice p n cap) L) : n = L.length ∧ n ≤ cap ∧ cap ≤ maxLen ∧ (0 < n → ∃ b off, p = some ⟨b, off, none⟩ ∧ CellsAt w b off (E.all L)) := by
 obtain ⟨p', cap', e, h1, h2, h3⟩ := h
 simp only [Value.slice.injEq] at e
 obtain ⟨rfl, rfl, rfl⟩ := e
 exact ⟨rfl, h1, h2, h3⟩
theorem CellsAt.elem {α : Type} {E : Enc α} {w : World} {b off : Nat} {L : List α} (h : CellsAt w b off (E.all L)) (i : Nat) (hi : i < L.length) (k : Nat) (hk : k < E.size) (v : Value) (hv : (E.cells L[i])[k]? = some v) : w.cell? ⟨b, off + i * E.size + k, none⟩ = some v := by
 have := h (i * E.size + k) v (by rw [E.all_at L i hi k hk]; exact hv)
 rwa [← Nat.add_assoc] at this
/-- a slice of the call's own that reads as L -/
def OwnL {α : Type} (E : Enc α) (t : TypeId) (w : World) (base : Nat) (v : Value) (L : List α) : Prop := w.ownsRow base t E.size v L.length (E.all L)
theorem OwnL.isNil {α : Type} (E : Enc α) (t : TypeId) (w : World) (base : Nat) : OwnL E t w base (.slice none 0 0) [] := World.ownsRow_nil w base _ _
theorem OwnL.alloc {α : Type} {E : Enc α} {t : TypeId} {w : World} {base : Nat} {v : Value} {L : List α} (h : OwnL E t w base v L) (o : Obj) : OwnL E t (w.alloc o) base v L := World.ownsRow.alloc h o
theorem OwnL.sl {α : Type} {E : Enc α} {t : TypeId} {w : World} {base : Nat} {v : Value} {L : List α} (h : OwnL E t w base v L) : SlIs E w v L := by
 obtain ⟨h1, h2 | ⟨g, cap, cur, e, hb, hg, hn, hm, hs, ht⟩⟩ := h
 ·obtain ⟨e, h0⟩ := h2
  have : L = [] := List.eq_nil_of_length_eq_zero h0
  subst this; subst e
  exact SlIs.isNil E w
 ·subst e
  refine ⟨_, cap, rfl, hn, hm, fun _ => ⟨g, 0, rfl, ?_⟩⟩
  intro j v hv
  rw [cell_of_row w g (0 + j) cur _ (0, 0) hg]
  rw [← ht, List.getElem?_take] at hv
  split at hv
  ·simpa using hv
  ·cases hv
theorem OwnL.grown_below {α : Type} {E : Enc α} {t : TypeId} {w w' : World} {base : Nat} {v : Value} {L : List α} (h : OwnL E t w base v L) (hg : w.grownBy w' v.ownBlock) (hb : base ≤ w.heap.size) : Below base w w' :=
 (Below.refl base w).grown hg hb (fun k hk => (World.ownsRow.lt h k hk).1)
theorem OwnL.drewN {α : Type} {E : Enc α} {t : TypeId} {w : World} {base : Nat} {v : Value} {L : List α} (h : OwnL E t w base v L) (n : Nat) : OwnL E t (w.drewN n) base v L := h
/-- a callee that leaves all that is there leaves the slice of the call's own -/
theorem OwnL.below {α : Type} {E : Enc α} {t : TypeId} {w w' : World} {base : Nat} {v : Value} {L : List α} (h : OwnL E t w base v L) (hb : Below w.heap.size w w') : OwnL E t w' base v L := by
 obtain ⟨h1, h2 | ⟨g, cap, cur, e, hb', hg, rest⟩⟩ := h
 ·exact ⟨h1, .inl h2⟩
 ·have hlt : g < w.heap.size := by
   by_cases hlt : g < w.heap.size
   ·exact hlt
   ·rw [Array.getElem?_eq_none (by omega)] at hg; cases hg
  exact ⟨h1, .inr ⟨g, cap, cur, e, hb', by rw [hb.block g hlt]; exact hg, rest⟩⟩
/-- the elements M lie from p on -/
def LiesL {α : Type} (E : Enc α) (w : World) (p : Option Addr) (M : List α) : Prop := 0 < M.length → ∃ b off, p = some ⟨b, off, none⟩ ∧ CellsAt w b off (E.all M)
theorem wpList_appendL {α : Type} {E : Enc α} {P : Program} {w : World} {ops : Array Oper} {rest : List Oper} {o : Oper} {a : Act} {Q : Exit → Act → World → Prop} {sT eT : TypeId} {z : Value} {bytes : Nat}
  (hu : P.underlying sT = some (.slice eT)) (hinfo : (P.info? eT).map (fun i => (i.zero, i.size, i.bytes)) = some (some z, E.size, bytes)) (hzs : z.cells.size = E.size)
  (hgd : o.guard = none) (s x : Operand)
  (ho : o.op = .call { callee := .builtin .append, args := #[s, x], argTypes := #[sT, sT] })
  (base : Nat) (v : Value) (L : List α) (hs : a.eval s = v) (hown : OwnL E eT w base v L) (p : Option Addr) (m c : Nat) (M : List α) (hx : a.eval x = .slice p m c) (hM : m = M.length) (hl : LiesL E w p M) (hp : p = none → c = 0)
  (hL : Hid (L.length + M.length ≤ maxLen)) (hL2 : Hid ((L.length + M.length) * bytes ≤ 140737488355328)) (hbase : base ≤ w.heap.size)
  (h : ∀ v' w', OwnL E eT w' base v' (L ++ M) → Below base w w' → wpList P ops Q rest (a.put o.dst v') w') : wpList P ops Q (o :: rest) a w := by
 obtain ⟨i0, hi, hz0, hz1, hz2⟩ := info_parts hinfo
 subst hM
 by_cases h0 : M = []
 ·subst h0
  cases p with
  | none =>
   have hc0 := hp rfl
   subst hc0
   exact wpList_append_own_none hgd s x _ ho base eT i0 E.size hu hi v L.length (E.all L) hs hown hx (h v w (by simpa using hown) (Below.refl _ _))
  | some ad =>
   refine wpList_append_own w hgd s x sT ho base eT i0 _ E.size bytes hu hi hz0 hz1 hz2 hzs E.pos v L.length (E.all L) hs hown ad 0 c [] hx (by simp) (fun j u hu => by simp at hu) (fun u hu => by simp at hu) hL.out hL2.out hbase ?_
   intro v' w' h1 h2 _
   exact h v' w' (by simpa [OwnL] using h1) (hown.grown_below h2 hbase)
 ·obtain ⟨b, off, rfl, hcl⟩ := hl (List.length_pos_iff.2 h0)
  refine wpList_append_own w hgd s x sT ho base eT i0 _ E.size bytes hu hi hz0 hz1 hz2 hzs E.pos v L.length (E.all L) hs hown ⟨b, off, none⟩ M.length c (E.all M) hx (E.all_length M) (fun j u hu => by rw [add_lit]; exact hcl j u hu) (E.all_one M) hL.out hL2.out hbase ?_
  intro v' w' h1 h2 _
  refine h v' w' ?_ (hown.grown_below h2 hbase)
  unfold OwnL
  rw [List.length_append, E.all_append]
  exact h1
/-- the same, as one step of a region that draws its order -/
theorem step_appendL {α : Type} {E : Enc α} {P : Program} {w : World} {ops : Array Oper} {o : Oper} {a : Act} {K : Act → World → Prop} {Q : Exit → Act → World → Prop} {F : Prop} {sT eT : TypeId} {z : Value} {bytes : Nat}
  (hu : P.underlying sT = some (.slice eT)) (hinfo : (P.info? eT).map (fun i => (i.zero, i.size, i.bytes)) = some (some z, E.size, bytes)) (hzs : z.cells.size = E.size)
  (hgd : o.guard = none) (s x : Operand)
  (ho : o.op = .call { callee := .builtin .append, args := #[s, x], argTypes := #[sT, sT] })
  (base : Nat) (v : Value) (L : List α) (hs : a.eval s = v) (hown : OwnL E eT w base v L) (b off : Nat) (m c : Nat) (M : List α) (hx : a.eval x = .slice (some ⟨b, off, none⟩) m c) (hM : m = M.length) (hl : CellsAt w b off (E.all M))
  (hL : Hid (L.length + M.length ≤ maxLen)) (hL2 : Hid ((L.length + M.length) * bytes ≤ 140737488355328)) (hbase : base ≤ w.heap.size)
  (h : ∀ v' w', OwnL E eT w' base v' (L ++ M) → Below base w w' → K (a.put o.dst v') w') : if Region.wanted o (yielded ops a.tmps) = true then Oper.wp P o a w K Q else F := by
 have hw : Region.wanted o (yielded ops a.tmps) = true := by simp [Region.wanted, hgd]
 rw [if_pos hw]
 obtain ⟨i0, hi, hz0, hz1, hz2⟩ := info_parts hinfo
 subst hM
 refine wp_append_own w s x sT ho base eT i0 _ E.size bytes hu hi hz0 hz1 hz2 hzs E.pos v L.length (E.all L) hs hown ⟨b, off, none⟩ M.length c (E.all M) hx (E.all_length M) (fun j u hu => by rw [add_lit]; exact hl j u hu) (E.all_one M) hL.out hL2.out hbase ?_
 intro v' w' h1 h2 _
 refine h v' w' ?_ (hown.grown_below h2 hbase)
 unfold OwnL
 rw [List.length_append, E.all_append]
 exact h1
end Go.Proofs.YtgcaeimlmkkeoaaGreat
namespace Go.Proofs.YtgcaeimlmkkeoaaGreat
open Go
/-- what an operation may leave: the value f x for some x, of which φ x holds in the world, then and later -/
structure Ty (Le : World → World → Prop) where
 α : Type
 inh : Nonempty α
 f : α → Value
 φ : α → World → Prop
 mono : ∀ x w w', Le w w' → φ x w → φ x w'
section
variable {P : Program} {ops : Array Oper} {md : Region.Mode} {Le : World → World → Prop}
abbrev Facts := Nat → World → Prop
def upd (F : Facts) (i : Nat) (p : World → Prop) : Facts := fun k => if k = i then p else F k
theorem upd_ne (F : Facts) {i k : Nat} (p : World → Prop) (h : k ≠ i) : upd F i p k = F k := by simp [upd, h]
theorem upd_comm (F : Facts) {i j : Nat} (p q : World → Prop) (h : i ≠ j) : upd (upd F i p) j q = upd (upd F j q) i p := by
 funext k
 unfold upd
 by_cases h1 : k = i
 ·subst h1; simp [h]
 ·by_cases h2 : k = j
  ·subst h2; simp [h1]
  ·simp [h1, h2]
variable {w0 : World} {T : Nat → Ty Le}
def Keeps (Le : World → World → Prop) (F : Facts) : Prop := ∀ k w w', Le w w' → F k w → F k w'
theorem Keeps.upd {F : Facts} (h : Keeps Le F) (i : Nat) (t : Ty Le) (x : t.α) : Keeps Le (upd F i (t.φ x)) := by
 intro k w w' hl hf
 unfold Proofs.YtgcaeimlmkkeoaaGreat.upd at *
 split
 ·rename_i hk; rw [if_pos hk] at hf; exact t.mono x w w' hl hf
 ·rename_i hk; rw [if_neg hk] at hf; exact h k w w' hl hf
end
end Go.Proofs.YtgcaeimlmkkeoaaGreat
namespace Go.Proofs.YtgcaeimlmkkeoaaGreat
open Go.RowKit
/-- made.Mod: a number from 0 on, below n -/
theorem mod_any (x n : Int) (h1 : 1 ≤ n) (h2 : n ≤ 4611686018427387904) (hx : -9223372036854775808 ≤ x) (hx2 : x ≤ 9223372036854775807) :
  ∃ k : Int, (∀ w : World, Calls Tryz.prog 6 #[.int .i64 x, .int .i64 n] w fun e w' => e = .returned (.int .i64 k) ∧ w = w') ∧ 0 ≤ k ∧ k < n := by
 by_cases h0 : 0 ≤ x
 ·have b1 := Int.emod_nonneg x (show n ≠ 0 by omega)
  have b2 := Int.emod_lt_of_pos x (show 0 < n by omega)
  refine ⟨x % n, fun w => ?_, b1, b2⟩
  go_enter Tryz.func6, Tryz.ntmps6
  go_wp2
  go_ret
  exact ⟨rfl, rfl⟩
 ·have b1 : -n < x.tmod n := by have := Int.lt_tmod_of_pos x (show 0 < n by omega); omega
  have b2 : x.tmod n ≤ 0 := by
   have := Int.tmod_nonneg (a := -x) n (by omega)
   rw [Int.neg_tmod] at this
   omega
  have e1 : IntKind.i64.wrap (x.tmod n) = x.tmod n := IntWalk.i64_in _ (by omega)
  have hm : ∀ w : World, Calls Tryz.prog 6 #[.int .i64 x, .int .i64 n] w fun e w' => e = .returned (.int .i64 (if x.tmod n < 0 then x.tmod n + n else x.tmod n)) ∧ w = w' := by
   intro w
   by_cases hz : x.tmod n < 0
   ·rw [if_pos hz]
    go_enter Tryz.func6, Tryz.ntmps6
    go_wp2
    go_ret
    exact ⟨rfl, rfl⟩
   ·rw [if_neg hz]
    go_enter Tryz.func6, Tryz.ntmps6
    go_wp2
    go_ret
    exact ⟨rfl, rfl⟩
  refine ⟨_, hm, ?_, ?_⟩
  ·split <;> omega
  ·split <;> omega
end Go.Proofs.YtgcaeimlmkkeoaaGreat
namespace Go.Proofs.YtgcaeimlmkkeoaaGreat
open Go Go.RowKit
/-- of what was there all is as it was, but for the cells of M -/
structure But (M : Addr → Prop) (w w' : World) : Prop where
 os : w'.os = w.os
 tape : w'.tape = w.tape
 output : w'.output = w.output
 size : w.heap.size ≤ w'.heap.size
 cell : ∀ a : Addr, a.block < w.heap.size → ¬ M a → w'.cell? a = w.cell? a
 frozen : ∀ a : Addr, a.block < w.heap.size → w'.frozen? a = w.frozen? a
 block : ∀ k, k < w.heap.size → (∀ a : Addr, a.block = k → ¬ M a) → w'.heap[k]? = w.heap[k]?
theorem But.refl (M : Addr → Prop) (w : World) : But M w w := ⟨rfl, rfl, rfl, Nat.le_refl _, fun _ _ _ => rfl, fun _ _ => rfl, fun _ _ _ => rfl⟩
theorem But.trans {M : Addr → Prop} {a b c : World} (h : But M a b) (k : But M b c) : But M a c :=
 ⟨k.os.trans h.os, k.tape.trans h.tape, k.output.trans h.output, Nat.le_trans h.size k.size,
  fun x hx hm => (k.cell x (Nat.lt_of_lt_of_le hx h.size) hm).trans (h.cell x hx hm),
  fun x hx => (k.frozen x (Nat.lt_of_lt_of_le hx h.size)).trans (h.frozen x hx),
  fun x hx hm => (k.block x (Nat.lt_of_lt_of_le hx h.size) hm).trans (h.block x hx hm)⟩
theorem But.mono {M N : Addr → Prop} {w w' : World} (h : But M w w') (hM : ∀ a, M a → N a) : But N w w' :=
 ⟨h.os, h.tape, h.output, h.size, fun x hx hm => h.cell x hx (fun k => hm (hM x k)), h.frozen, fun k hk hm => h.block k hk (fun a ha q => hm a ha (hM a q))⟩
theorem But.of_below {M : Addr → Prop} {w w' : World} (h : Below w.heap.size w w') : But M w w' :=
 ⟨h.os, h.tape, h.output, h.size, fun x hx _ => h.cell hx, fun x hx => h.frozen hx, fun k hk _ => h.block k hk⟩
theorem But.below {M : Addr → Prop} {w w' : World} {B : Nat} (h : But M w w') (hB : B ≤ w.heap.size) (hM : ∀ a, M a → B ≤ a.block) : Below B w w' :=
 ⟨h.os, h.tape, h.output, h.size, fun k hk => h.block k (by omega) (fun a ha q => by have := hM a q; omega)⟩
theorem But.drew {M : Addr → Prop} (w : World) : But M w w.drew := ⟨rfl, rfl, rfl, Nat.le_refl _, fun _ _ _ => rfl, fun _ _ => rfl, fun _ _ _ => rfl⟩
theorem But.drewN {M : Addr → Prop} (w : World) (n : Nat) : But M w (w.drewN n) := ⟨rfl, rfl, rfl, Nat.le_refl _, fun _ _ _ => rfl, fun _ _ => rfl, fun _ _ _ => rfl⟩
theorem But.alloc {M : Addr → Prop} (w : World) (o : Obj) : But M w (w.alloc o) := But.of_below ((Below.refl _ _).alloc (Nat.le_refl _) o)
theorem But.setCell {M : Addr → Prop} (w : World) (a : Addr) (u : Value) (h : M a) : But M w (w.setCell a u) := by
 refine ⟨rfl, rfl, rfl, by simp [World.setCell], fun x hx hm => World.cell?_setCell_other _ _ _ _ (fun e => hm (e ▸ h)), fun x hx => World.frozen?_setCell _ _ _ _, fun k hk hm => ?_⟩
 exact Below.heap_setCell _ _ _ _ (fun e => hm a e.symm h)
/-- a store into a block that is new -/
theorem But.setCell_new {M : Addr → Prop} {w w' : World} (h : But M w w') (a : Addr) (u : Value) (ha : w.heap.size ≤ a.block) : But M w (w'.setCell a u) :=
 ⟨h.os, h.tape, h.output, by simpa [World.setCell] using h.size,
  fun x hx hm => (World.cell?_setCell_other _ _ _ _ (fun e => by subst e; omega)).trans (h.cell x hx hm),
  fun x hx => (World.frozen?_setCell _ _ _ _).trans (h.frozen x hx),
  fun k hk hm => (Below.heap_setCell _ _ _ _ (by omega)).trans (h.block k hk hm)⟩
theorem But.keep {M : Addr → Prop} {w w' : World} (h : But M w w') {a : Addr} {v : Value} (hc : w.cell? a = some v) (hm : ¬ M a) : w'.cell? a = some v := by
 rw [h.cell a (World.block_lt_of_cell? w _ hc) hm]; exact hc
/-- numbers in a row: the dice's list -/
def Rolls (w : World) (p : Option Addr) (n : Nat) : Prop :=
 ∀ i, i < n → ∃ b o, p = some ⟨b, o, none⟩ ∧ ∃ x : Int, -9223372036854775808 ≤ x ∧ x ≤ 9223372036854775807 ∧ w.cell? ⟨b, o + i, none⟩ = some (.int .i64 x)
/-- dice: their block, and the numbers that they give -/
structure Dice where
 D : Nat
 p : Option Addr
 n : Nat
 cap : Nat
/-- how many numbers have been given out -/
def atOf (D : Nat) (w : World) : Nat := match w.cell? ⟨D, 1, none⟩ with | some (.int _ k) => k.toNat | _ => 0
def isAt (D : Nat) (a : Addr) : Prop := a = ⟨D, 1, none⟩
/-- the dice lie there -/
structure DiceAt (d : Dice) (w : World) : Prop where
 few : d.n ≤ 400
 row : w.cell? ⟨d.D, 0, none⟩ = some (.slice d.p d.n d.cap)
 at_ : w.cell? ⟨d.D, 1, none⟩ = some (.int .i64 (atOf d.D w : Nat))
 le : atOf d.D w ≤ d.n
 rolls : Rolls w d.p d.n
 away : ∀ b o, d.p = some ⟨b, o, none⟩ → b ≠ d.D
 warm : w.frozen? ⟨d.D, 1, none⟩ = false
theorem atOf_eq {D : Nat} {w : World} {k : Nat} (h : w.cell? ⟨D, 1, none⟩ = some (.int .i64 (k : Int))) : atOf D w = k := by
 unfold atOf; rw [h]; rfl
theorem Rolls.keep {M : Addr → Prop} {w w' : World} {p : Option Addr} {n : Nat} (h : Rolls w p n) (hb : But M w w') (hm : ∀ b o i, p = some ⟨b, o, none⟩ → ¬ M ⟨b, i, none⟩) : Rolls w' p n := by
 intro i hi
 obtain ⟨b, o, hp, x, h1, h2, hc⟩ := h i hi
 exact ⟨b, o, hp, x, h1, h2, hb.keep hc (hm b o _ hp)⟩
/-- the dice after something that turned no more than the count -/
theorem DiceAt.keep {M : Addr → Prop} {d : Dice} {w w' : World} (h : DiceAt d w) (hb : But M w w') (h0 : ¬ M ⟨d.D, 0, none⟩) (hm : ∀ b o i, d.p = some ⟨b, o, none⟩ → ¬ M ⟨b, i, none⟩)
  {k : Nat} (hk : w'.cell? ⟨d.D, 1, none⟩ = some (.int .i64 (k : Int))) (hn : k ≤ d.n) : DiceAt d w' := by
 have e := atOf_eq hk
 refine ⟨h.few, hb.keep h.row h0, by rw [e]; exact hk, by omega, h.rolls.keep hb hm, h.away, ?_⟩
 rw [hb.frozen _ (World.block_lt_of_cell? w _ h.at_)]
 exact h.warm
/-- what a throw does: the count goes on by one, or the numbers are used up -/
structure Thrown (d : Dice) (w w' : World) : Prop where
 but : But (isAt d.D) w w'
 good : DiceAt d w'
 le : atOf d.D w ≤ atOf d.D w'
theorem Thrown.refl {d : Dice} {w : World} (h : DiceAt d w) : Thrown d w w := ⟨But.refl _ _, h, Nat.le_refl _⟩
theorem Thrown.trans {d : Dice} {a b c : World} (h : Thrown d a b) (k : Thrown d b c) : Thrown d a c := ⟨h.but.trans k.but, k.good, Nat.le_trans h.le k.le⟩
end Go.Proofs.YtgcaeimlmkkeoaaGreat
namespace Go.Proofs.YtgcaeimlmkkeoaaGreat
open Go
section
variable {P : Program} {ops : Array Oper} {md : Region.Mode} {Le : World → World → Prop} {w0 : World} {T : Nat → Ty Le}
end
/-- a region whose last operations come in one forced order behind all others, which change nothing; the world under a name of one's own -/
theorem still_tail {P : Program} {id : Nat} {Q : Exit → Act → World → Prop} {a : Act} {w : World} {l : List Oper} (n : Nat) (hm : P.follows .mixedOrders = true) (hB : Region.lexTailB .any l.toArray n = true)
  (wd : World) (e : w.drew = wd) (h : wpStill P l.toArray wd (fun a' => wpList P l.toArray Q (l.drop n) a' wd) (l.take n) a) : (Code.region id l.toArray true).wp P Q a w := by
 subst e
 exact wp_region_still_tail n hm hB h
end Go.Proofs.YtgcaeimlmkkeoaaGreat
