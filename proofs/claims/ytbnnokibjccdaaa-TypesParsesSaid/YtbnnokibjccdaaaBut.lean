/-
  FRAMES: all that was there is as it was, but for some cells; and what of it a dice needs.
-/
import Derived.Test.YtbnnokibjccdaaaRel
import Derived.Test.YtbnnokibjccdaaaMod
namespace Go.Proofs.Ytbnnokibjccdaaa
open Go Go.RowKit
set_option linter.unusedVariables false

/-- of what was there all is as it was, but for the cells of M -/
structure But (M : Addr → Prop) (w w' : World) : Prop where
  os : w'.os = w.os
  tape : w'.tape = w.tape
  output : w'.output = w.output
  size : w.heap.size ≤ w'.heap.size
  cell : ∀ a : Addr, a.block < w.heap.size → ¬ M a → w'.cell? a = w.cell? a
  frozen : ∀ a : Addr, a.block < w.heap.size → w'.frozen? a = w.frozen? a
  block : ∀ k, k < w.heap.size → (∀ a : Addr, a.block = k → ¬ M a) → w'.heap[k]? = w.heap[k]?

theorem But.refl (M : Addr → Prop) (w : World) : But M w w := ⟨rfl, rfl, rfl, Nat.le_refl _, fun _ _ _ => rfl, fun _ _ => rfl, fun _ _ _ => rfl⟩
theorem But.trans {M : Addr → Prop} {a b c : World} (h : But M a b) (k : But M b c) : But M a c :=
  ⟨k.os.trans h.os, k.tape.trans h.tape, k.output.trans h.output, Nat.le_trans h.size k.size,
   fun x hx hm => (k.cell x (Nat.lt_of_lt_of_le hx h.size) hm).trans (h.cell x hx hm),
   fun x hx => (k.frozen x (Nat.lt_of_lt_of_le hx h.size)).trans (h.frozen x hx),
   fun x hx hm => (k.block x (Nat.lt_of_lt_of_le hx h.size) hm).trans (h.block x hx hm)⟩
theorem But.mono {M N : Addr → Prop} {w w' : World} (h : But M w w') (hM : ∀ a, M a → N a) : But N w w' :=
  ⟨h.os, h.tape, h.output, h.size, fun x hx hm => h.cell x hx (fun k => hm (hM x k)), h.frozen, fun k hk hm => h.block k hk (fun a ha q => hm a ha (hM a q))⟩
/-- the cells of M that were there count alone -/
theorem But.mono_old {M N : Addr → Prop} {w w' : World} (h : But M w w') (hM : ∀ a, a.block < w.heap.size → M a → N a) : But N w w' :=
  ⟨h.os, h.tape, h.output, h.size, fun x hx hm => h.cell x hx (fun k => hm (hM x hx k)), h.frozen, fun k hk hm => h.block k hk (fun a ha q => hm a ha (hM a (by omega) q))⟩
theorem But.of_below {M : Addr → Prop} {w w' : World} (h : Below w.heap.size w w') : But M w w' :=
  ⟨h.os, h.tape, h.output, h.size, fun x hx _ => h.cell hx, fun x hx => h.frozen hx, fun k hk _ => h.block k hk⟩
theorem But.below {M : Addr → Prop} {w w' : World} {B : Nat} (h : But M w w') (hB : B ≤ w.heap.size) (hM : ∀ a, M a → B ≤ a.block) : Below B w w' :=
  ⟨h.os, h.tape, h.output, h.size, fun k hk => h.block k (by omega) (fun a ha q => by have := hM a q; omega)⟩
theorem But.drew {M : Addr → Prop} (w : World) : But M w w.drew := ⟨rfl, rfl, rfl, Nat.le_refl _, fun _ _ _ => rfl, fun _ _ => rfl, fun _ _ _ => rfl⟩
theorem But.drewN {M : Addr → Prop} (w : World) (n : Nat) : But M w (w.drewN n) := ⟨rfl, rfl, rfl, Nat.le_refl _, fun _ _ _ => rfl, fun _ _ => rfl, fun _ _ _ => rfl⟩
theorem But.alloc {M : Addr → Prop} (w : World) (o : Obj) : But M w (w.alloc o) := But.of_below ((Below.refl _ _).alloc (Nat.le_refl _) o)
theorem But.setCell {M : Addr → Prop} (w : World) (a : Addr) (u : Value) (h : M a) : But M w (w.setCell a u) := by
  refine ⟨rfl, rfl, rfl, by simp [World.setCell], fun x hx hm => World.cell?_setCell_other _ _ _ _ (fun e => hm (e ▸ h)), fun x hx => World.frozen?_setCell _ _ _ _, fun k hk hm => ?_⟩
  exact Below.heap_setCell _ _ _ _ (fun e => hm a e.symm h)
/-- a store into a block that is new -/
theorem But.setCell_new {M : Addr → Prop} {w w' : World} (h : But M w w') (a : Addr) (u : Value) (ha : w.heap.size ≤ a.block) : But M w (w'.setCell a u) :=
  ⟨h.os, h.tape, h.output, by simpa [World.setCell] using h.size,
   fun x hx hm => (World.cell?_setCell_other _ _ _ _ (fun e => by subst e; omega)).trans (h.cell x hx hm),
   fun x hx => (World.frozen?_setCell _ _ _ _).trans (h.frozen x hx),
   fun k hk hm => (Below.heap_setCell _ _ _ _ (by omega)).trans (h.block k hk hm)⟩
theorem But.keep {M : Addr → Prop} {w w' : World} (h : But M w w') {a : Addr} {v : Value} (hc : w.cell? a = some v) (hm : ¬ M a) : w'.cell? a = some v := by
  rw [h.cell a (World.block_lt_of_cell? w _ hc) hm]; exact hc

/-- numbers in a row: the dice's list -/
def Rolls (w : World) (p : Option Addr) (n : Nat) : Prop :=
  ∀ i, i < n → ∃ b o, p = some ⟨b, o, none⟩ ∧ ∃ x : Int, -9223372036854775808 ≤ x ∧ x ≤ 9223372036854775807 ∧ w.cell? ⟨b, o + i, none⟩ = some (.int .i64 x)

/-- dice: their block, and the numbers that they give -/
structure Dice where
  D : Nat
  p : Option Addr
  n : Nat
  cap : Nat

/-- how many numbers have been given out -/
def atOf (D : Nat) (w : World) : Nat := match w.cell? ⟨D, 1, none⟩ with | some (.int _ k) => k.toNat | _ => 0
def isAt (D : Nat) (a : Addr) : Prop := a = ⟨D, 1, none⟩

/-- the dice lie there -/
structure DiceAt (d : Dice) (w : World) : Prop where
  few : d.n ≤ 400
  row : w.cell? ⟨d.D, 0, none⟩ = some (.slice d.p d.n d.cap)
  at_ : w.cell? ⟨d.D, 1, none⟩ = some (.int .i64 (atOf d.D w : Nat))
  le : atOf d.D w ≤ d.n
  rolls : Rolls w d.p d.n
  away : ∀ b o, d.p = some ⟨b, o, none⟩ → b ≠ d.D
  warm : w.frozen? ⟨d.D, 1, none⟩ = false

theorem atOf_eq {D : Nat} {w : World} {k : Nat} (h : w.cell? ⟨D, 1, none⟩ = some (.int .i64 (k : Int))) : atOf D w = k := by
  unfold atOf; rw [h]; rfl

theorem Rolls.keep {M : Addr → Prop} {w w' : World} {p : Option Addr} {n : Nat} (h : Rolls w p n) (hb : But M w w') (hm : ∀ b o i, p = some ⟨b, o, none⟩ → ¬ M ⟨b, i, none⟩) : Rolls w' p n := by
  intro i hi
  obtain ⟨b, o, hp, x, h1, h2, hc⟩ := h i hi
  exact ⟨b, o, hp, x, h1, h2, hb.keep hc (hm b o _ hp)⟩

/-- the dice after something that turned no more than the count -/
theorem DiceAt.keep {M : Addr → Prop} {d : Dice} {w w' : World} (h : DiceAt d w) (hb : But M w w') (h0 : ¬ M ⟨d.D, 0, none⟩) (hm : ∀ b o i, d.p = some ⟨b, o, none⟩ → ¬ M ⟨b, i, none⟩)
    {k : Nat} (hk : w'.cell? ⟨d.D, 1, none⟩ = some (.int .i64 (k : Int))) (hn : k ≤ d.n) : DiceAt d w' := by
  have e := atOf_eq hk
  refine ⟨h.few, hb.keep h.row h0, by rw [e]; exact hk, by omega, h.rolls.keep hb hm, h.away, ?_⟩
  rw [hb.frozen _ (World.block_lt_of_cell? w _ h.at_)]
  exact h.warm
theorem DiceAt.still {M : Addr → Prop} {d : Dice} {w w' : World} (h : DiceAt d w) (hb : But M w w') (hm : ∀ b o i, d.p = some ⟨b, o, none⟩ → ¬ M ⟨b, i, none⟩) (h0 : ∀ i, ¬ M ⟨d.D, i, none⟩) : DiceAt d w' ∧ atOf d.D w' = atOf d.D w := by
  have hk := hb.keep h.at_ (h0 1)
  exact ⟨h.keep hb (h0 0) hm hk h.le, atOf_eq hk⟩

/-- what a throw does: the count goes on by one, or the numbers are used up -/
structure Thrown (d : Dice) (w w' : World) : Prop where
  but : But (isAt d.D) w w'
  good : DiceAt d w'
  le : atOf d.D w ≤ atOf d.D w'

theorem Thrown.refl {d : Dice} {w : World} (h : DiceAt d w) : Thrown d w w := ⟨But.refl _ _, h, Nat.le_refl _⟩
theorem Thrown.trans {d : Dice} {a b c : World} (h : Thrown d a b) (k : Thrown d b c) : Thrown d a c := ⟨h.but.trans k.but, k.good, Nat.le_trans h.le k.le⟩

theorem thrown_drewN {d : Dice} {w : World} (h : DiceAt d w) (m : Nat) : Thrown d w (w.drewN m) := by
  have hb : But (fun _ => False) w (w.drewN m) := But.drewN w m
  have hs := h.still hb (fun _ _ _ _ q => q) (fun _ q => q)
  exact ⟨hb.mono (fun _ q => q.elim), hs.1, by omega⟩

/-- a throw that gives a number out -/
theorem thrown_set {d : Dice} {w : World} (h : DiceAt d w) (hlt : atOf d.D w < d.n) (m : Nat) : Thrown d w ((w.setCell ⟨d.D, 1, none⟩ (.int .i64 ((atOf d.D w : Nat) + 1 : Nat))).drewN m) ∧ atOf d.D ((w.setCell ⟨d.D, 1, none⟩ (.int .i64 ((atOf d.D w : Nat) + 1 : Nat))).drewN m) = atOf d.D w + 1 := by
  have hb : But (isAt d.D) w ((w.setCell ⟨d.D, 1, none⟩ (.int .i64 ((atOf d.D w : Nat) + 1 : Nat))).drewN m) := (But.setCell (M := isAt d.D) w ⟨d.D, 1, none⟩ _ rfl).trans (But.drewN _ m)
  have hk : ((w.setCell ⟨d.D, 1, none⟩ (.int .i64 ((atOf d.D w : Nat) + 1 : Nat))).drewN m).cell? ⟨d.D, 1, none⟩ = some (.int .i64 ((atOf d.D w : Nat) + 1 : Nat)) := World.cell?_setCell_same _ _ _ h.at_
  refine ⟨⟨hb, h.keep hb (by simp [isAt]) ?_ hk (by omega), ?_⟩, atOf_eq hk⟩
  · intro b o i hp q
    unfold isAt at q
    injection q with q1 q2 q3
    exact h.away b o hp q1
  · rw [atOf_eq hk]; omega

end Go.Proofs.Ytbnnokibjccdaaa
