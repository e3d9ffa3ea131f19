/-
  LAWS: a list of ints that came in, as dice (without the package's other makers).
-/
import Derived.Test.YtheigpiffdabnaaGreatZB1
import Derived.ChangeSlices
import Derived.OpenShut
import Derived.WalkKit
import Derived.ProofKit
import Derived.Test.YtheigpiffdabnaaGreatZB6
set_option linter.unusedSimpArgs false
set_option linter.unusedVariables false
namespace Go.Proofs.YtheigpiffdabnaaGreat
open Go Go.RowKit Go.ChangeShapes Go.WideShapes
/-- Roll -/
theorem roll_any (p : Option Addr) (n cap : Nat) (w : World) : Calls Tryz.prog 6 #[.slice p n cap] w fun e w' => e = .returned (.pointer (some ⟨w.heap.size, 0, none⟩)) ∧ w' = w.alloc (.cells #[.slice p n cap, .int .i64 0] 42) := by
 go_enter Tryz.func6, Tryz.ntmps6
 go_wp2_with fail
 go_ret
 exact ⟨rfl, rfl⟩
/-- the dice as Roll leaves them -/
theorem roll_dice (w : World) (p : Option Addr) (n cap : Nat) (t : TypeId) (hn : n ≤ 400) (h : ∀ i, i < n → ∃ b o, p = some ⟨b, o, none⟩ ∧ ∃ x : Int, -9223372036854775808 ≤ x ∧ x ≤ 9223372036854775807 ∧ w.cell? ⟨b, o + i, none⟩ = some (.int .i64 x))
  (hb : ∀ b o, p = some ⟨b, o, none⟩ → b < w.heap.size) :
  DiceAt ⟨w.heap.size, p, n, cap⟩ (w.alloc (.cells #[.slice p n cap, .int .i64 0] t)) := by
 have c : ∀ i v, (#[.slice p n cap, .int .i64 0] : Array Value)[i]? = some v → (w.alloc (.cells #[.slice p n cap, .int .i64 0] t)).cell? ⟨w.heap.size, i, none⟩ = some v := fun i v hv => by rw [Lib.cell_of_heap (heap_alloc_new w _)]; exact hv
 have ea : atOf w.heap.size (w.alloc (.cells #[.slice p n cap, .int .i64 0] t)) = 0 := atOf_eq (c 1 _ rfl)
 refine ⟨?_, c 0 _ rfl, by rw [ea]; exact c 1 _ rfl, by rw [ea]; exact Nat.zero_le _, fun i hi => ?_, fun b o e => ?_, Lib.frozen_of_heap (heap_alloc_new w _) 1⟩
 ·show n ≤ 400
  exact hn
 ·obtain ⟨b, o, hp, x, h1, h2, hc⟩ := h i hi
  refine ⟨b, o, hp, x, h1, h2, ?_⟩
  rw [(below_box w _).cell (p := ⟨b, o + i, none⟩) (hb b o hp)]
  exact hc
 ·have := hb b o e
  show b ≠ w.heap.size
  omega
theorem lt_of_shape {w : World} {r : Nat} {x : TypeId × Nat} (h : w.shape? r = some x) : r < w.heap.size := by
 unfold World.shape? at h
 by_cases hlt : r < w.heap.size
 ·exact hlt
 ·rw [Array.getElem?_eq_none (by omega)] at h; simp at h
set_option maxRecDepth 100000 in
/-- a list of ints that came in: the numbers that it holds, and where -/
theorem open_rolls {H : Type} {enc : TypeId × Value → H} {W : World} {v : Value} {d : DataW H} {p : List MemPlace} {b0 : Nat} (hv : Value.okWide Tryz.prog W .any b0 22 v) (h : DataW.Trod enc Tryz.prog W 0 (fun _ => true) true 22 v d p) :
  ∃ (p' : Option Addr) (n cap : Nat), v = .slice p' n cap ∧ n ≤ maxLen ∧ Rolls W p' n ∧ (∀ b o, p' = some ⟨b, o, none⟩ → b < W.heap.size) := by
 obtain ⟨a0, len, cap, rfl⟩ := okWide_slice Tryz.underlying22 hv
 obtain ⟨fuel, hf⟩ := h
 have hin : ∀ b o, a0 = some ⟨b, o, none⟩ → b < W.heap.size := by
  intro b o e
  subst e
  simp only [Value.okWide, Tryz.underlying22, Cell.okWide, Cell.ok] at hv
  obtain ⟨_, _, _, _, r, c, hs, _⟩ := hv
  exact lt_of_shape hs
 rcases open_ints Tryz.underlying22 Tryz.underlying3 (by kernel_rfl) hf with ⟨e, _⟩ | ⟨a, l2, c2, zs, e, _, hlc, hcm, hzl, _, hc, hw⟩
 ·simp only [Value.cells, List.cons.injEq, and_true] at e
  have e' : Value.slice a0 len cap = .slice none 0 0 := by simpa [Value.cells] using e
  injection e' with e1 e2 e3
  subst e1; subst e2; subst e3
  exact ⟨none, 0, 0, rfl, Nat.zero_le _, fun i hi => absurd hi (Nat.not_lt_zero _), hin⟩
 ·simp only [Value.cells, List.cons.injEq, and_true] at e
  have e' : Value.slice a0 len cap = .slice (some a) l2 c2 := by simpa [Value.cells] using e
  injection e' with e1 e2 e3
  subst e1; subst e2; subst e3
  refine ⟨some a, len, cap, rfl, Nat.le_trans hlc hcm, fun i hi => ?_, hin⟩
  have hzi : i < zs.length := by rw [hzl]; split <;> omega
  have hci := hc i hzi
  have hlit : a.spot = none := by have := World.cell?_spot (hc 0 (by omega)); simpa [Addr.add] using this
  obtain ⟨b, o, s⟩ := a
  simp only at hlit
  subst hlit
  refine ⟨b, o, rfl, zs.getD i 0, ?_, ?_, ?_⟩
  ·have := hw (zs.getD i 0) (by rw [List.getD_eq_getElem?_getD, List.getElem?_eq_getElem hzi]; exact List.getElem_mem hzi)
   simp [Lit.wf, IntKind.min, IntKind.max, IntKind.signed, IntKind.bits] at this
   exact this.1
  ·have := hw (zs.getD i 0) (by rw [List.getD_eq_getElem?_getD, List.getElem?_eq_getElem hzi]; exact List.getElem_mem hzi)
   simp [Lit.wf, IntKind.min, IntKind.max, IntKind.signed, IntKind.bits] at this
   exact this.2
  ·rw [add_lit] at hci; exact hci
theorem light_yes (p : Option Addr) (n cap : Nat) (w : World) (hn : n ≤ 400) : Calls Tryz.prog 4 #[.slice p n cap] w fun e w' => e = .returned (.bool true) ∧ w' = w := by
 have h : (n : Int) ≤ 400 := by omega
 go_enter Tryz.func4, Tryz.ntmps4
 go_wp2_with fail
 go_ret
 exact ⟨rfl, rfl⟩
theorem light_no (p : Option Addr) (n cap : Nat) (w : World) (hn : 400 < n) (hm : n ≤ maxLen) : Calls Tryz.prog 4 #[.slice p n cap] w fun e w' => e = .returned (.bool false) ∧ w' = w := by
 unfold maxLen at hm
 have h : ¬ (n : Int) ≤ 400 := by omega
 go_enter Tryz.func4, Tryz.ntmps4
 go_wp2_with fail
 go_ret
 exact ⟨rfl, rfl⟩
/-- the dice that Roll makes of a list that came in -/
theorem rolled {w : World} {p : Option Addr} {n cap : Nat} (hn : n ≤ 400) (hr : Rolls w p n) (hb : ∀ b o, p = some ⟨b, o, none⟩ → b < w.heap.size) :
  DiceAt ⟨w.heap.size, p, n, cap⟩ (w.alloc (.cells #[.slice p n cap, .int .i64 0] 42)) ∧ (∀ b o, p = some ⟨b, o, none⟩ → b < (w.alloc (.cells #[.slice p n cap, .int .i64 0] 42)).heap.size) :=
 ⟨roll_dice w p n cap _ hn hr hb, fun b o e => by have := hb b o e; have := (below_box w (.cells #[.slice p n cap, .int .i64 0] 42)).size; omega⟩
end Go.Proofs.YtheigpiffdabnaaGreat
namespace Go.Proofs.YtheigpiffdabnaaGreat
open Go Go.RowKit
def DiceOr (w w' : World) (k : Nat) : Prop := w'.heap[k]? = w.heap[k]? ∨ ∃ (p : Option Addr) (n c a' : Nat), w.cell? ⟨k, 0, none⟩ = some (.slice p n c) ∧ w'.cell? ⟨k, 0, none⟩ = some (.slice p n c) ∧ w'.cell? ⟨k, 1, none⟩ = some (.int .i64 (a' : Int)) ∧ a' ≤ n ∧ w.frozen? ⟨k, 1, none⟩ = false ∧ w'.frozen? ⟨k, 1, none⟩ = false
structure LeJ (B : Nat) (w w' : World) : Prop where
 be : Below B w w'
 dice : ∀ k, k < w.heap.size → DiceOr w w' k
theorem cell_eq {w w' : World} {k i : Nat} (e : w'.heap[k]? = w.heap[k]?) : w'.cell? ⟨k, i, none⟩ = w.cell? ⟨k, i, none⟩ := World.cell?_of_block (a := ⟨k, i, none⟩) e
theorem froz_eq {w w' : World} {k i : Nat} (e : w'.heap[k]? = w.heap[k]?) : w'.frozen? ⟨k, i, none⟩ = w.frozen? ⟨k, i, none⟩ := World.frozen?_of_block (a := ⟨k, i, none⟩) e
theorem LeJ.refl (B : Nat) (w : World) : LeJ B w w := ⟨Below.refl _ _, fun k _ => .inl rfl⟩
theorem LeJ.trans (B : Nat) (a b c : World) (h : LeJ B a b) (k : LeJ B b c) : LeJ B a c := by
 refine ⟨h.be.trans k.be, fun i hi => ?_⟩
 have hs := h.be.size
 rcases h.dice i hi with e1 | ⟨p, n, q, a1, x1, x2, x3, x4, x5, x6⟩ <;> rcases k.dice i (by omega) with e2 | ⟨p', n', q', a2, y1, y2, y3, y4, y5, y6⟩
 ·exact .inl (e2.trans e1)
 ·exact .inr ⟨p', n', q', a2, by rw [← cell_eq e1]; exact y1, y2, y3, y4, by rw [← froz_eq e1]; exact y5, y6⟩
 ·exact .inr ⟨p, n, q, a1, x1, by rw [cell_eq e2]; exact x2, by rw [cell_eq e2]; exact x3, x4, x5, by rw [froz_eq e2]; exact x6⟩
 ·rw [x2] at y1
  injection y1 with y1
  injection y1 with z1 z2 z3
  subst z1; subst z2; subst z3
  exact .inr ⟨p, n, q, a2, x1, y2, y3, y4, x5, y6⟩
theorem LeJ.of_below {B : Nat} {w w' : World} (h : Below w.heap.size w w') (hB : B ≤ w.heap.size) : LeJ B w w' := ⟨h.mono hB, fun k hk => .inl (h.block k hk)⟩
theorem LeJ.of_src {B : Nat} {d : Dice} {w w' : World} (hB : B ≤ d.D) (hd : DiceAt d w) (hd' : DiceAt d w') (h : Fr w.heap.size d.D w.heap.size w w') : LeJ B w w' := by
 have hD : d.D < w.heap.size := World.block_lt_of_cell? w _ hd.row
 refine ⟨⟨h.os, h.tape, h.output, h.size, fun k hk => h.block k (by omega) (by omega) (by omega)⟩, fun k hk => ?_⟩
 by_cases e : k = d.D
 ·subst e
  exact .inr ⟨_, _, _, _, hd.row, hd'.row, hd'.at_, hd'.le, hd.warm, hd'.warm⟩
 ·exact .inl (h.block k hk (by omega) e)
theorem LeJ.die {B : Nat} {d : Dice} {w w' : World} (h : DiceAt d w) (hB : ∀ b o, d.p = some ⟨b, o, none⟩ → b < B) (hl : LeJ B w w') : DiceAt d w' := by
 have hD : d.D < w.heap.size := World.block_lt_of_cell? w _ h.row
 have hr : Rolls w' d.p d.n := by
  intro i hi
  obtain ⟨b, o, hp, x, h1, h2, hc⟩ := h.rolls i hi
  exact ⟨b, o, hp, x, h1, h2, by rw [cell_eq (hl.be.block b (hB b o hp))]; exact hc⟩
 rcases hl.dice d.D hD with e | ⟨p, n, q, a1, x1, x2, x3, x4, x5, x6⟩
 ·have ea : atOf d.D w' = atOf d.D w := atOf_eq (by rw [cell_eq e]; exact h.at_)
  exact ⟨h.few, by rw [cell_eq e]; exact h.row, by rw [ea, cell_eq e]; exact h.at_, by rw [ea]; exact h.le, hr, h.away, by rw [froz_eq e]; exact h.warm⟩
 ·have e1 := x1
  rw [h.row] at e1
  injection e1 with e1
  injection e1 with z1 z2 z3
  have ea : atOf d.D w' = a1 := atOf_eq x3
  exact ⟨h.few, by rw [x2, z1, z2, z3], by rw [ea]; exact x3, by rw [ea, z2]; exact x4, hr, h.away, x6⟩
/-- dice -/
def tyDie (B : Nat) (p : Option Addr) (n c : Nat) : Ty (LeJ B) := ⟨{D : Nat // B ≤ D}, ⟨⟨B, Nat.le_refl _⟩⟩, fun D => .pointer (some ⟨D.1, 0, none⟩), fun D w => DiceAt ⟨D.1, p, n, c⟩ w ∧ ∀ b o, p = some ⟨b, o, none⟩ → b < B, fun x w w' hl h => ⟨LeJ.die h.1 h.2 hl, h.2⟩⟩
theorem tyDie_f (B : Nat) (p : Option Addr) (n c D : Nat) (h : B ≤ D) : (tyDie B p n c).f ⟨D, h⟩ = .pointer (some ⟨D, 0, none⟩) := rfl
theorem tyDie_p (B : Nat) (p : Option Addr) (n c D : Nat) (h : B ≤ D) (w : World) : (tyDie B p n c).φ ⟨D, h⟩ w = (DiceAt ⟨D, p, n, c⟩ w ∧ ∀ b o, p = some ⟨b, o, none⟩ → b < B) := rfl
/-- the first module of a list, of which the text is known -/
def ModIs (Φ : Gp) (g : Nat) (w : World) : Prop := ∃ m s : ByteArray, w.cell? ⟨g, 0, none⟩ = some (.string m) ∧ w.cell? ⟨g, 1, none⟩ = some (.string s) ∧ SzT Φ 12400 s
theorem ModIs.keep {Φ : Gp} {B g : Nat} {w w' : World} (h : ModIs Φ g w) (hl : LeJ B w w') : ModIs Φ g w' := by
 obtain ⟨m, s, h1, h2, h3⟩ := h
 rcases hl.dice g (World.block_lt_of_cell? w _ h1) with e | ⟨p, n, q, a1, x1, _⟩
 ·exact ⟨m, s, by rw [cell_eq e]; exact h1, by rw [cell_eq e]; exact h2, h3⟩
 ·rw [h1] at x1
  cases x1
def tyMod (Φ : Gp) (B : Nat) : Ty (LeJ B) := ⟨{x : Nat × Nat × Nat // 1 ≤ x.2.1}, ⟨⟨(0, 1, 0), Nat.le_refl _⟩⟩, fun x => .slice (some ⟨x.1.1, 0, none⟩) x.1.2.1 x.1.2.2, fun x w => ModIs Φ x.1.1 w, fun x w w' hl h => h.keep hl⟩
theorem tyMod_f (Φ : Gp) (B g n c : Nat) (h : 1 ≤ n) : (tyMod Φ B).f ⟨(g, n, c), h⟩ = .slice (some ⟨g, 0, none⟩) n c := rfl
theorem tyMod_p (Φ : Gp) (B g n c : Nat) (h : 1 ≤ n) (w : World) : (tyMod Φ B).φ ⟨(g, n, c), h⟩ w = ModIs Φ g w := rfl
def tyPm (Φ : Gp) (B o : Nat) : Ty (LeJ B) := ⟨{g : Nat // True}, ⟨⟨0, trivial⟩⟩, fun g => .pointer (some ⟨g.1, o, none⟩), fun g w => ModIs Φ g.1 w, fun x w w' hl h => h.keep hl⟩
theorem tyPm_f (Φ : Gp) (B o g : Nat) (h : True) : (tyPm Φ B o).f ⟨g, h⟩ = .pointer (some ⟨g, o, none⟩) := rfl
theorem tyPm_p (Φ : Gp) (B o g : Nat) (h : True) (w : World) : (tyPm Φ B o).φ ⟨g, h⟩ w = ModIs Φ g w := rfl
/-- what Sources gives, as its first module -/
theorem src_first {Φ : Gp} {d : Dice} {w w' : World} {e : Ending} (h : SrcPost Φ d w e w') : ∃ g n c, e = .returned (.slice (some ⟨g, 0, none⟩) n c) ∧ 1 ≤ n ∧ ModIs Φ g w' := by
 obtain ⟨L, v, rfl, ho, hT, h1, h3, hd, hf⟩ := h
 have hs := ho.srcs
 obtain ⟨h1', ⟨hv, hn⟩ | ⟨g, cap, cur, hv, hg, hh, rest⟩⟩ := ho
 ·rw [mods_length] at hn
  omega
 ·rw [hv] at hs
  rw [mods_length] at hv hs
  subst hv
  obtain ⟨hn2, _, _, hl⟩ := SrcIs.liesAt hs
  obtain ⟨b, off, e2, hc⟩ := hl (by rw [mods_length]; omega)
  injection e2 with e2
  injection e2 with e3 e4 _
  subst e3; subst e4
  refine ⟨_, _, _, rfl, h1, letterOf 0, L.getD 0 ByteArray.empty, ?_, ?_, ?_⟩
  ·have := hc 0 (.string (letterOf 0)) (by
    cases L with
    | nil => simp at h1
    | cons x L => simp [mods, srcCells, List.range_succ_eq_map])
   simpa using this
  ·have := hc 1 (.string (L.getD 0 ByteArray.empty)) (by
    cases L with
    | nil => simp at h1
    | cons x L => simp [mods, srcCells, List.range_succ_eq_map])
   simpa using this
  ·cases L with
   | nil => simp at h1
   | cons x L => exact hT x List.mem_cons_self
theorem rolls_le {w0 w' : World} {p : Option Addr} {n : Nat} (h : Rolls w0 p n) (hin : ∀ b o, p = some ⟨b, o, none⟩ → b < w0.heap.size) (hl : Below w0.heap.size w0 w') : Rolls w' p n := by
 intro i hi
 obtain ⟨b, o, hp, x, h1, h2, hc⟩ := h i hi
 exact ⟨b, o, hp, x, h1, h2, by rw [cell_eq (hl.block b (hin b o hp))]; exact hc⟩
theorem die_new {w0 w' : World} {p : Option Addr} {n cap : Nat} (h : Rolls w0 p n) (hin : ∀ b o, p = some ⟨b, o, none⟩ → b < w0.heap.size) (hn : n ≤ 400) (hl : LeJ w0.heap.size w0.drew w') :
  w0.heap.size ≤ w'.heap.size ∧ DiceAt ⟨w'.heap.size, p, n, cap⟩ (w'.alloc (.cells #[.slice p n cap, .int .i64 0] 42)) ∧ LeJ w0.heap.size w' (w'.alloc (.cells #[.slice p n cap, .int .i64 0] 42)) := by
 have hb : Below w0.heap.size w0 w' := (Below.refl _ _).drew.trans hl.be
 have hs := hb.size
 exact ⟨hs, (rolled hn (rolls_le h hin hb) (fun b o e => by have := hin b o e; omega)).1, LeJ.of_below (below_box w' _) hs⟩
end Go.Proofs.YtheigpiffdabnaaGreat
