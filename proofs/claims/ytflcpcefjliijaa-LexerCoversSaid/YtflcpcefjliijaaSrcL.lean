/-
  THE TEXTS OF MODULES THAT ARE BEING MADE: a row of strings beside the program; what keeps it, and a store into it.
-/
import Derived.Test.YtflcpcefjliijaaItem
import Derived.Test.YtflcpcefjliijaaRelT
namespace Go.Proofs.Ytflcpcefjliijaa
open Go Go.RowKit
set_option linter.unusedVariables false

def rowS (L : List ByteArray) : Array Value := (L.map Value.string).toArray
theorem rowS_set (L : List ByteArray) (i : Nat) (s : ByteArray) : rowS (L.set i s) = (rowS L).setIfInBounds i (.string s) := by unfold rowS; rw [List.map_set]; simp
theorem rowS_at (L : List ByteArray) (i : Nat) (h : i < L.length) : (rowS L)[i]? = some (.string L[i]) := by simp [rowS, h]

/-- the program, and the texts -/
structure SrcL (w0 : World) (d : Dice) (Tx c : Nat) (g : Made) (L : List ByteArray) (w : World) : Prop where
  prog : ProgAt (Tx + 1) c g w
  txt : w.heap[Tx]? = some (.cells (rowS L) 9 (0, 0))
  fr : Fr w0.heap.size d.D w0.heap.size w0 w
  d : g.d = d
  P : g.P = w0.heap.size
  mac : g.macro_ = false
  PT : w0.heap.size < Tx

theorem SrcL.go {w0 : World} {d : Dice} {Tx c c' : Nat} {g g' : Made} {L : List ByteArray} {w w' : World} (h : SrcL w0 d Tx c g L w) (k : ProgAt (Tx + 1) c' g' w') (f : Fr (Tx + 1) g.d.D g.P w w') (e1 : g'.d = g.d) (e2 : g'.P = g.P) (e3 : g'.macro_ = false) : SrcL w0 d Tx c' g' L w' := by
  have hlow := h.prog.low
  have hP := h.P
  have hPT := h.PT
  have hd : g.d.D = d.D := by rw [h.d]
  refine ⟨k, by rw [f.block Tx (by omega) (by omega) (by omega)]; exact h.txt, h.fr.trans ⟨f.os, f.tape, f.output, f.size, fun x h1 h2 h3 => f.block x (by omega) (by omega) (by omega), fun a h1 h2 => f.dcell a (by omega) (by rw [hd]; exact h2), fun a h1 => f.dfrozen a (by omega)⟩, e1.trans h.d, e2.trans h.P, e3, h.PT⟩
theorem SrcL.went {w0 : World} {d : Dice} {Tx c : Nat} {g : Made} {L : List ByteArray} {w w' : World} (h : SrcL w0 d Tx c g L w) (k : Went g w w') : SrcL w0 d Tx c g L w' := h.go (h.prog.went k) (Fr.went h.prog k) rfl rfl h.mac
theorem SrcL.thrown {w0 : World} {d : Dice} {Tx c : Nat} {g : Made} {L : List ByteArray} {w w' : World} (h : SrcL w0 d Tx c g L w) (k : Thrown g.d w w') : SrcL w0 d Tx c g L w' := h.went (went_thrown h.prog.made k)
theorem SrcL.below {w0 : World} {d : Dice} {Tx c : Nat} {g : Made} {L : List ByteArray} {w w' : World} (h : SrcL w0 d Tx c g L w) (k : Below w.heap.size w w') : SrcL w0 d Tx c g L w' := h.went (went_below h.prog.made k)
theorem SrcL.alloc {w0 : World} {d : Dice} {Tx c : Nat} {g : Made} {L : List ByteArray} {w : World} (h : SrcL w0 d Tx c g L w) (o : Obj) : SrcL w0 d Tx c g L (w.alloc o) := h.went (went_alloc h.prog.made o)
theorem SrcL.drew {w0 : World} {d : Dice} {Tx c : Nat} {g : Made} {L : List ByteArray} {w : World} (h : SrcL w0 d Tx c g L w) : SrcL w0 d Tx c g L w.drew := h.went (went_drewN h.prog.made 1)
theorem SrcL.cell {w0 : World} {d : Dice} {Tx c : Nat} {g : Made} {L : List ByteArray} {w : World} (h : SrcL w0 d Tx c g L w) (i : Nat) (hi : i < L.length) : w.cell? ⟨Tx, i, none⟩ = some (.string L[i]) := by rw [Lib.cell_of_heap h.txt, rowS_at L i hi]
theorem SrcL.warm {w0 : World} {d : Dice} {Tx c : Nat} {g : Made} {L : List ByteArray} {w : World} (h : SrcL w0 d Tx c g L w) (i : Nat) : w.frozen? ⟨Tx, i, none⟩ = false := Lib.frozen_of_heap h.txt i

/-- a store into a block apart -/
theorem ProgAt.apart {ob c : Nat} {g : Made} {w w' : World} {Tx : Nat} (h : ProgAt ob c g w) (hb : But (fun a => a.block = Tx) w w') (h1 : g.P < Tx) (h2 : Tx < ob) : ProgAt ob c g w' := by
  have hlow := h.low
  have nP : ∀ i, ¬ ((⟨g.P, i, none⟩ : Addr).block = Tx) := fun i => by show ¬ g.P = Tx; omega
  have nD : ∀ i, ¬ ((⟨g.d.D, i, none⟩ : Addr).block = Tx) := fun i => by show ¬ g.d.D = Tx; omega
  have nR : ∀ b o i, g.d.p = some ⟨b, o, none⟩ → ¬ ((⟨b, i, none⟩ : Addr).block = Tx) := fun b o i e => by have := h.row b o e; show ¬ b = Tx; omega
  have hm : ∀ a : Addr, a.block = Tx → a.block < ob := fun a e => by omega
  have kd := hb.keep h.made.dice.at_ (nD 1)
  have k6 := hb.keep h.made.c6 (nP 6)
  have ev : varsOf g.P w' = varsOf g.P w := varsOf_eq k6
  have ea : atOf g.d.D w' = atOf g.d.D w := atOf_eq kd
  have l1 := h.l1.keep hb hm
  have l2 := h.l2.keep hb hm
  have l3 := h.l3.keep hb hm
  have hD : g.d.D < ob := by omega
  have hP : g.P < ob := by omega
  refine ⟨⟨h.made.dice.keep hb (nD 0) nR kd h.made.dice.le, h.made.apart, h.made.rowP, hb.keep h.made.c0 (nP 0), hb.keep h.made.c1 (nP 1), hb.keep h.made.c2 (nP 2), hb.keep h.made.c3 (nP 3), hb.keep h.made.c4 (nP 4), hb.keep h.made.c5 (nP 5), by rw [ev]; exact k6, hb.keep h.made.c7 (nP 7),
    by rw [hb.frozen _ (World.block_lt_of_cell? w _ h.made.c6)]; exact h.made.warm, l1.vars g hD hP, l2.vars g hD hP, l3.vars g hD hP, h.made.few, by rw [ev, ea]; exact h.made.credit⟩, h.low, h.row, h.pob,
    fun i => (hb.frozen ⟨g.P, i, none⟩ (World.block_lt_of_cell? w _ h.made.c6 : g.P < w.heap.size)).trans (h.warm i), Nat.le_trans h.siz hb.size, l1, l2, l3, h.o12, h.o13, h.o21, h.o23, h.o31, h.o32, h.cnt, h.few⟩
theorem SrcL.store {w0 : World} {d : Dice} {Tx c : Nat} {g : Made} {L : List ByteArray} {w : World} (h : SrcL w0 d Tx c g L w) (i : Nat) (s : ByteArray) : SrcL w0 d Tx c g (L.set i s) (w.setCell ⟨Tx, i, none⟩ (.string s)) := by
  have hb : But (fun a => a.block = Tx) w (w.setCell ⟨Tx, i, none⟩ (.string s)) := But.setCell w _ _ rfl
  have hP := h.P
  have hPT := h.PT
  have hlow := h.prog.low
  have hd : g.d.D = d.D := by rw [h.d]
  refine ⟨h.prog.apart hb (by omega) (by omega), by rw [rowS_set]; exact heap_setCell_same _ _ _ _ _ _ h.txt, h.fr.trans (Fr.of_blocks hb.os hb.tape hb.output hb.size (fun k h1 h2 => Below.heap_setCell _ _ _ _ (by show k ≠ Tx; omega)) (by omega) (by omega)), h.d, h.P, h.mac, h.PT⟩

/-- the program and the texts stay as they are -/
def LeS (w0 : World) (d : Dice) (Tx c : Nat) (g : Made) (L : List ByteArray) (w w' : World) : Prop := SrcL w0 d Tx c g L w → SrcL w0 d Tx c g L w'
theorem LeS.refl (w0 : World) (d : Dice) (Tx c : Nat) (g : Made) (L : List ByteArray) (w : World) : LeS w0 d Tx c g L w w := fun h => h
theorem LeS.trans (w0 : World) (d : Dice) (Tx c : Nat) (g : Made) (L : List ByteArray) (a b e : World) (h : LeS w0 d Tx c g L a b) (k : LeS w0 d Tx c g L b e) : LeS w0 d Tx c g L a e := fun x => k (h x)

theorem base_any (w : World) : Calls Try.prog 32 #[] w fun e w' => ∃ s : ByteArray, s.size ≤ 400 ∧ e = .returned (.string s) ∧ w' = w := by
  go_enter Try.func32, Try.ntmps32
  go_wp2
  go_ret
  exact ⟨_, by decide +kernel, rfl, rfl⟩

/-- two short strings in a block -/
def tyTwo (g : Made) : Ty (LeM g) := ⟨{b : Nat // True}, ⟨⟨0, trivial⟩⟩, fun b => .slice (some ⟨b.1, 0, none⟩) 2 2, fun b w => MadeAt g w ∧ Shorts 8 w (some ⟨b.1, 0, none⟩) 2 ∧ b.1 ≠ g.d.D ∧ b.1 ≠ g.P, fun x w w' hl h =>
  ⟨(hl h.1).good, h.2.1.keep (hl h.1).but (fun b o i e q => by
    injection e with e; injection e with e _ _
    rcases q with q | q
    · injection q with q _ _; exact h.2.2.1 (e.trans q)
    · injection q with q _ _; exact h.2.2.2 (e.trans q)), h.2.2⟩⟩
theorem tyTwo_f (g : Made) (b : Nat) (hb : True) : (tyTwo g).f ⟨b, hb⟩ = .slice (some ⟨b, 0, none⟩) 2 2 := rfl
theorem tyTwo_p (g : Made) (b : Nat) (hb : True) (w : World) : (tyTwo g).φ ⟨b, hb⟩ w = (MadeAt g w ∧ Shorts 8 w (some ⟨b, 0, none⟩) 2 ∧ b ≠ g.d.D ∧ b ≠ g.P) := rfl
theorem two_new {g : Made} {w : World} (h : MadeAt g w) (a b : ByteArray) (ha : a.size ≤ 8) (hb : b.size ≤ 8) (t : TypeId) : MadeAt g (w.alloc (.cells #[.string a, .string b] t)) ∧ Shorts 8 (w.alloc (.cells #[.string a, .string b] t)) (some ⟨w.heap.size, 0, none⟩) 2 ∧ w.heap.size ≠ g.d.D ∧ w.heap.size ≠ g.P := by
  have hP := World.block_lt_of_cell? w _ h.c6
  simp only at hP
  exact ⟨(went_alloc h _).good, shorts_two a b ha hb t w, away_new h.dice, by omega⟩
theorem fact_in {md : Region.Mode} {o : Oper} {F : Facts} {w : World} (h : leans md o F w) {j : Nat} (hj : (o.after.any fun e => Region.binds md e && (e.on == j)) = true) : F j w := by
  obtain ⟨e, he, h2⟩ := Array.any_eq_true'.1 hj
  simp only [Bool.and_eq_true, beq_iff_eq] at h2
  rw [← h2.2]
  exact h e he h2.1
theorem set_le {L : List ByteArray} {B B2 i : Nat} {s : ByteArray} (h : ∀ x ∈ L, x.size ≤ B) (hs : s.size ≤ B2) (hB : B ≤ B2) : ∀ x ∈ L.set i s, x.size ≤ B2 := by
  intro x hx
  rcases List.mem_or_eq_of_mem_set hx with hx | rfl
  · have := h x hx; omega
  · exact hs
end Go.Proofs.Ytflcpcefjliijaa
