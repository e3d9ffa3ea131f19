/-
  A PROGRAM THAT IS BEING MADE, WITH ITS LISTS: what stays when a list grows, or a flag is set.
-/
import Derived.Test.YtflcpcefjliijaaNums
import Derived.Maps.AppendAt
import Derived.Lib.Builder
namespace Go.Proofs.Ytflcpcefjliijaa
open Go Go.RowKit
set_option linter.unusedVariables false

/-- a list of short strings in a block from ob on -/
def Lst (ob : Nat) (w : World) (p : Option Addr) (n c : Nat) : Prop := ∃ F : List ByteArray, F.length = n ∧ (∀ s ∈ F, s.size ≤ 8) ∧ OwnT w ob (.slice p n c) F
def other (v u : Value) : Prop := v.ownBlock = none ∨ v.ownBlock ≠ u.ownBlock

structure ProgAt (ob c : Nat) (g : Made) (w : World) : Prop where
  made : MadeAt g w
  low : g.d.D < g.P
  row : ∀ b o, g.d.p = some ⟨b, o, none⟩ → b < g.P
  pob : g.P < ob
  warm : ∀ i, w.frozen? ⟨g.P, i, none⟩ = false
  siz : ob ≤ w.heap.size
  l1 : Lst ob w g.fp g.fn g.fc
  l2 : Lst ob w g.cp g.cn g.cc
  l3 : Lst ob w g.mp g.mn g.mc
  o12 : other (.slice g.fp g.fn g.fc) (.slice g.cp g.cn g.cc)
  o13 : other (.slice g.fp g.fn g.fc) (.slice g.mp g.mn g.mc)
  o21 : other (.slice g.cp g.cn g.cc) (.slice g.fp g.fn g.fc)
  o23 : other (.slice g.cp g.cn g.cc) (.slice g.mp g.mn g.mc)
  o31 : other (.slice g.mp g.mn g.mc) (.slice g.fp g.fn g.fc)
  o32 : other (.slice g.mp g.mn g.mc) (.slice g.cp g.cn g.cc)
  cnt : g.fn + g.cn + g.mn ≤ c
  few : c ≤ 90

/-- what stays: all blocks below ob but the program's and the dice's, and of these all but the count -/
structure Fr (ob D P : Nat) (w w' : World) : Prop where
  os : w'.os = w.os
  tape : w'.tape = w.tape
  output : w'.output = w.output
  size : w.heap.size ≤ w'.heap.size
  block : ∀ k, k < ob → k ≠ P → k ≠ D → w'.heap[k]? = w.heap[k]?
  dcell : ∀ a : Addr, a.block = D → a ≠ ⟨D, 1, none⟩ → w'.cell? a = w.cell? a
  dfrozen : ∀ a : Addr, a.block = D → w'.frozen? a = w.frozen? a
theorem Fr.refl (ob D P : Nat) (w : World) : Fr ob D P w w := ⟨rfl, rfl, rfl, Nat.le_refl _, fun _ _ _ _ => rfl, fun _ _ _ => rfl, fun _ _ => rfl⟩
theorem Fr.trans {ob D P : Nat} {a b c : World} (h : Fr ob D P a b) (k : Fr ob D P b c) : Fr ob D P a c :=
  ⟨k.os.trans h.os, k.tape.trans h.tape, k.output.trans h.output, Nat.le_trans h.size k.size, fun x h1 h2 h3 => (k.block x h1 h2 h3).trans (h.block x h1 h2 h3), fun x h1 h2 => (k.dcell x h1 h2).trans (h.dcell x h1 h2), fun x h1 => (k.dfrozen x h1).trans (h.dfrozen x h1)⟩
theorem Fr.cast {ob D P D' P' : Nat} {w w' : World} (e1 : D = D') (e2 : P = P') (h : Fr ob D P w w') : Fr ob D' P' w w' := by subst e1; subst e2; exact h
/-- below the program's block, and a row from ob on, and the program's block itself: nothing else was written -/
theorem Fr.of_blocks {ob D P : Nat} {w w' : World} (h1 : w'.os = w.os) (h2 : w'.tape = w.tape) (h3 : w'.output = w.output) (h4 : w.heap.size ≤ w'.heap.size) (hb : ∀ k, k < ob → k ≠ P → w'.heap[k]? = w.heap[k]?) (hD : D < ob) (hDP : D ≠ P) : Fr ob D P w w' :=
  ⟨h1, h2, h3, h4, fun k a b _ => hb k a b, fun a e _ => World.cell?_of_block (by rw [e]; exact hb D hD hDP), fun a e => World.frozen?_of_block (by rw [e]; exact hb D hD hDP)⟩
theorem Fr.went {ob c : Nat} {g : Made} {w w' : World} (h : ProgAt ob c g w) (k : Went g w w') : Fr ob g.d.D g.P w w' := by
  have hD := World.block_lt_of_cell? w _ h.made.dice.at_
  have hs := h.siz
  simp only at hD
  refine ⟨k.but.os, k.but.tape, k.but.output, k.but.size, fun x h1 h2 h3 => k.but.block x (by omega) (fun a ha q => ?_), fun a e hne => k.but.cell a (by omega) (fun q => ?_), fun a e => k.but.frozen a (by omega)⟩
  · rcases q with rfl | rfl
    · exact h3 ha.symm
    · exact h2 ha.symm
  · rcases q with q | rfl
    · exact hne q
    · have := h.low; simp only at e; omega

theorem Lst.keep {ob : Nat} {M : Addr → Prop} {w w' : World} {p : Option Addr} {n c : Nat} (h : Lst ob w p n c) (hb : But M w w') (hm : ∀ a, M a → a.block < ob) : Lst ob w' p n c := by
  obtain ⟨F, h1, h2, h3⟩ := h
  exact ⟨F, h1, h2, h3.keep hb hm⟩
theorem ProgAt.went {ob c : Nat} {g : Made} {w w' : World} (h : ProgAt ob c g w) (k : Went g w w') : ProgAt ob c g w' := by
  have hm : ∀ a, isMut g a → a.block < ob := by
    intro a q
    have h1 := h.low
    have h2 := h.pob
    rcases q with rfl | rfl
    · show g.d.D < ob; omega
    · exact h2
  exact ⟨k.good, h.low, h.row, h.pob, fun i => (k.but.frozen ⟨g.P, i, none⟩ (World.block_lt_of_cell? w _ h.made.c6 : g.P < w.heap.size)).trans (h.warm i), Nat.le_trans h.siz k.but.size, h.l1.keep k.but hm, h.l2.keep k.but hm, h.l3.keep k.but hm, h.o12, h.o13, h.o21, h.o23, h.o31, h.o32, h.cnt, h.few⟩

theorem Lst.vars {ob : Nat} {w : World} {p : Option Addr} {n c : Nat} (h : Lst ob w p n c) (g : Made) (h1 : g.d.D < ob) (h2 : g.P < ob) : Vars g w p n := by
  obtain ⟨F, hF, hS, h3⟩ := h
  subst hF
  obtain ⟨q, cap, e, hc⟩ := h3.cells
  injection e with e1 e2 e3
  subst e1
  refine ⟨fun i hi => ?_, fun b o e => ?_⟩
  · obtain ⟨b, e, _, hcell⟩ := hc i hi
    exact ⟨b, 0, F[i], e, by simpa using hcell, hS _ (List.getElem_mem _)⟩
  · obtain ⟨hl, h2 | ⟨y, cap2, cur, hv, hg, _⟩⟩ := h3
    · obtain ⟨e2, _⟩ := h2
      injection e2 with e2 _ _
      rw [e2] at e; cases e
    · injection hv with hv _ _
      rw [hv] at e
      injection e with e
      injection e with e _ _
      omega

/-- the value of a field of the program -/
def cellOf (g : Made) : Nat → Value
  | 1 => .slice g.fp g.fn g.fc
  | 2 => .slice g.cp g.cn g.cc
  | 3 => .slice g.mp g.mn g.mc
  | 4 => .bool g.records
  | 5 => .bool g.shows
  | _ => .bool g.macro_
theorem MadeAt.cells {g : Made} {w : World} (h : MadeAt g w) : w.cell? ⟨g.P, 1, none⟩ = some (cellOf g 1) ∧ w.cell? ⟨g.P, 2, none⟩ = some (cellOf g 2) ∧ w.cell? ⟨g.P, 3, none⟩ = some (cellOf g 3) ∧ w.cell? ⟨g.P, 4, none⟩ = some (cellOf g 4) ∧ w.cell? ⟨g.P, 5, none⟩ = some (cellOf g 5) ∧ w.cell? ⟨g.P, 7, none⟩ = some (cellOf g 7) :=
  ⟨h.c1, h.c2, h.c3, h.c4, h.c5, h.c7⟩

/-- blocks from ob on have come or grown, and a field of the program is set -/
theorem ProgAt.put {ob c c2 : Nat} {g g' : Made} {w w1 : World} {j : Nat} (h : ProgAt ob c g w) (hb : Below ob w w1) (hj : j = 1 ∨ j = 2 ∨ j = 3 ∨ j = 4 ∨ j = 5 ∨ j = 7) (hd : g'.d = g.d) (hP : g'.P = g.P)
    (hsame : ∀ i, i ≠ j → (i = 1 ∨ i = 2 ∨ i = 3 ∨ i = 4 ∨ i = 5 ∨ i = 7) → cellOf g' i = cellOf g i)
    (l1 : Lst ob w1 g'.fp g'.fn g'.fc) (l2 : Lst ob w1 g'.cp g'.cn g'.cc) (l3 : Lst ob w1 g'.mp g'.mn g'.mc)
    (o12 : other (.slice g'.fp g'.fn g'.fc) (.slice g'.cp g'.cn g'.cc)) (o13 : other (.slice g'.fp g'.fn g'.fc) (.slice g'.mp g'.mn g'.mc)) (o21 : other (.slice g'.cp g'.cn g'.cc) (.slice g'.fp g'.fn g'.fc))
    (o23 : other (.slice g'.cp g'.cn g'.cc) (.slice g'.mp g'.mn g'.mc)) (o31 : other (.slice g'.mp g'.mn g'.mc) (.slice g'.fp g'.fn g'.fc)) (o32 : other (.slice g'.mp g'.mn g'.mc) (.slice g'.cp g'.cn g'.cc))
    (cnt : g'.fn + g'.cn + g'.mn ≤ c2) (few : c2 ≤ 90) : ProgAt ob c2 g' (w1.setCell ⟨g.P, j, none⟩ (cellOf g' j)) ∧ Fr ob g.d.D g.P w (w1.setCell ⟨g.P, j, none⟩ (cellOf g' j)) := by
  have hlow := h.low
  have hob := h.pob
  have nj : ∀ i, i ≠ j → (⟨g.P, j, none⟩ : Addr) ≠ ⟨g.P, i, none⟩ := fun i hi e => by injection e with _ e _; exact hi e.symm
  have tc : ∀ b i v, b < g.P → w.cell? ⟨b, i, none⟩ = some v → (w1.setCell ⟨g.P, j, none⟩ (cellOf g' j)).cell? ⟨b, i, none⟩ = some v := by
    intro b i v hlt hc
    rw [World.cell?_setCell_other _ _ _ _ (show (⟨g.P, j, none⟩ : Addr) ≠ ⟨b, i, none⟩ from fun e => by injection e with e _ _; omega), hb.cell (p := ⟨b, i, none⟩) (show b < ob by omega)]
    exact hc
  have tP : ∀ i v, i ≠ j → w.cell? ⟨g.P, i, none⟩ = some v → (w1.setCell ⟨g.P, j, none⟩ (cellOf g' j)).cell? ⟨g.P, i, none⟩ = some v := by
    intro i v hi hc
    rw [World.cell?_setCell_other _ _ _ _ (nj i hi), hb.cell (p := ⟨g.P, i, none⟩) hob]
    exact hc
  have tf : ∀ b i, b < ob → (w1.setCell ⟨g.P, j, none⟩ (cellOf g' j)).frozen? ⟨b, i, none⟩ = w.frozen? ⟨b, i, none⟩ := by
    intro b i hlt
    rw [World.frozen?_setCell]
    exact hb.frozen (p := ⟨b, i, none⟩) hlt
  obtain ⟨k1, k2, k3, k4, k5, k7⟩ := h.made.cells
  have old : ∃ v, w1.cell? ⟨g.P, j, none⟩ = some v := by
    have e := hb.cell (p := ⟨g.P, j, none⟩) hob
    rcases hj with rfl | rfl | rfl | rfl | rfl | rfl <;> exact ⟨_, e.trans (by assumption)⟩
  obtain ⟨v0, hv0⟩ := old
  have cell : ∀ i, (i = 1 ∨ i = 2 ∨ i = 3 ∨ i = 4 ∨ i = 5 ∨ i = 7) → w.cell? ⟨g.P, i, none⟩ = some (cellOf g i) → (w1.setCell ⟨g.P, j, none⟩ (cellOf g' j)).cell? ⟨g.P, i, none⟩ = some (cellOf g' i) := by
    intro i hi hc
    by_cases e : i = j
    · subst e; exact World.cell?_setCell_same _ _ _ hv0
    · rw [hsame i e hi]; exact tP i _ e hc
  have k0 := tP 0 _ (by omega) h.made.c0
  have k6 := tP 6 _ (by omega) h.made.c6
  have kd := tc g.d.D 1 _ hlow h.made.dice.at_
  have hsb : But (fun a => a = ⟨g.P, j, none⟩) w1 (w1.setCell ⟨g.P, j, none⟩ (cellOf g' j)) := But.setCell w1 _ _ rfl
  have hm : ∀ a : Addr, a = ⟨g.P, j, none⟩ → a.block < ob := fun a e => by subst e; exact hob
  have l1' := l1.keep hsb hm
  have l2' := l2.keep hsb hm
  have l3' := l3.keep hsb hm
  have ev : varsOf g.P (w1.setCell ⟨g.P, j, none⟩ (cellOf g' j)) = varsOf g.P w := varsOf_eq k6
  have ea : atOf g.d.D (w1.setCell ⟨g.P, j, none⟩ (cellOf g' j)) = atOf g.d.D w := atOf_eq kd
  have hcr := h.made.credit
  have dice : DiceAt g.d (w1.setCell ⟨g.P, j, none⟩ (cellOf g' j)) := by
    have hd := h.made.dice
    refine ⟨hd.few, tc _ 0 _ hlow hd.row, by rw [ea]; exact kd, by rw [ea]; exact hd.le, fun i hi => ?_, hd.away, by rw [tf _ _ (by omega)]; exact hd.warm⟩
    obtain ⟨b, o, hp, x, h1, h2, hc⟩ := hd.rolls i hi
    exact ⟨b, o, hp, x, h1, h2, tc _ _ _ (h.row b o hp) hc⟩
  constructor
  · have hD' : g'.d.D < ob := by rw [hd]; omega
    have hP' : g'.P < ob := by rw [hP]; omega
    refine ⟨⟨by rw [hd]; exact dice, by rw [hP, hd]; exact h.made.apart, by rw [hP, hd]; exact h.made.rowP, by rw [hP, hd]; exact k0, by rw [hP]; exact cell 1 (by omega) k1, by rw [hP]; exact cell 2 (by omega) k2, by rw [hP]; exact cell 3 (by omega) k3, by rw [hP]; exact cell 4 (by omega) k4, by rw [hP]; exact cell 5 (by omega) k5,
      by rw [hP, ev]; exact k6, by rw [hP]; exact cell 7 (by omega) k7, by rw [hP, tf _ _ hob]; exact h.made.warm, l1'.vars g' hD' hP', l2'.vars g' hD' hP', l3'.vars g' hD' hP', by omega, by rw [hP, hd, ev, ea]; exact hcr⟩,
      by rw [hP, hd]; exact hlow, by rw [hP, hd]; exact h.row, by rw [hP]; exact hob, fun i => by rw [hP, tf _ _ hob]; exact h.warm i, by have h1 := h.siz; have h2 := hb.size; simp [World.setCell]; omega, l1', l2', l3', o12, o13, o21, o23, o31, o32, cnt, few⟩
  · exact Fr.of_blocks (hsb.os.trans hb.os) (hsb.tape.trans hb.tape) (hsb.output.trans hb.output) (Nat.le_trans hb.size hsb.size) (fun k hk hk2 => (Below.heap_setCell _ _ _ _ hk2).trans (hb.block k hk)) (by omega) (by omega)

/-- a list has grown: the others stand -/
theorem Lst.grown {ob : Nat} {w w' : World} {p q : Option Addr} {n c m d : Nat} (h : Lst ob w p n c) (hg : w.grownBy w' (Value.slice q m d).ownBlock) (ho : other (.slice p n c) (.slice q m d)) : Lst ob w' p n c := by
  obtain ⟨F, h1, h2, h3⟩ := h
  exact ⟨F, h1, h2, World.ownsRow.kept h3 hg ho⟩
theorem Lst.alloc {ob : Nat} {w : World} {p : Option Addr} {n c : Nat} (h : Lst ob w p n c) (o : Obj) : Lst ob (w.alloc o) p n c := by
  obtain ⟨F, h1, h2, h3⟩ := h
  exact ⟨F, h1, h2, World.ownsRow.alloc h3 o⟩

theorem Lst.lt {ob : Nat} {w : World} {p : Option Addr} {n c : Nat} (h : Lst ob w p n c) : ∀ k, (Value.slice p n c).ownBlock = some k → ob ≤ k ∧ k < w.heap.size := by
  obtain ⟨F, h1, h2, h3⟩ := h
  exact World.ownsRow.lt h3
/-- what an append to a list leaves -/
structure Pushed (ob : Nat) (w : World) (p : Option Addr) (n c : Nat) (v : Value) (w' : World) : Prop where
  lst : ∃ p' c', v = .slice p' (n + 1) c' ∧ Lst ob w' p' (n + 1) c'
  grown : w.grownBy w' (Value.slice p n c).ownBlock
  own : v.ownBlock = (Value.slice p n c).ownBlock ∨ v.ownBlock = some w.heap.size
theorem Pushed.below {ob : Nat} {w w' : World} {p : Option Addr} {n c : Nat} {v : Value} (h : Pushed ob w p n c v w') (hl : Lst ob w p n c) (hs : ob ≤ w.heap.size) : Below ob w w' := (Below.refl ob w).grown h.grown hs (fun k hk => (hl.lt k hk).1)
/-- another list stands, and lies apart -/
theorem Pushed.stands {ob : Nat} {w w' : World} {p q : Option Addr} {n c m d : Nat} {v : Value} (h : Pushed ob w p n c v w') (hl : Lst ob w q m d) (o1 : other (.slice q m d) (.slice p n c)) (o2 : other (.slice p n c) (.slice q m d)) :
    Lst ob w' q m d ∧ other (.slice q m d) v ∧ other v (.slice q m d) := by
  refine ⟨hl.grown h.grown o1, ?_, ?_⟩
  · rcases h.own with e | e
    · unfold other; rw [e]; exact o1
    · cases hq : (Value.slice q m d).ownBlock with
      | none => exact .inl hq
      | some k => exact .inr (by rw [e]; intro h2; rw [hq] at h2; have := (hl.lt k hq).2; injection h2 with h2; omega)
  · rcases h.own with e | e
    · unfold other; rw [e]; exact o2
    · right
      rw [e]
      intro h2
      have := (hl.lt _ h2.symm).2
      omega

theorem wpList_push {ops : Array Oper} {rest : List Oper} {o : Oper} {a : Act} {Q : Exit → Act → World → Prop} {w : World} (hgd : o.guard = none) (s x : Operand)
    (ho : o.op = .call { callee := .builtin .append, args := #[s, x], argTypes := #[65, 65] })
    (ob : Nat) (p : Option Addr) (n c : Nat) (hs : a.eval s = .slice p n c) (hl : Lst ob w p n c) (b : Nat) (t : ByteArray) (hx : a.eval x = .slice (some ⟨b, 0, none⟩) 1 1) (hb : w.cell? ⟨b, 0, none⟩ = some (.string t)) (ht : t.size ≤ 8)
    (hn : n ≤ 100) (hbase : ob ≤ w.heap.size)
    (h : ∀ q d w', Pushed ob w p n c (.slice q (n + 1) d) w' → wpList Try.prog ops Q rest (a.put o.dst (.slice q (n + 1) d)) w') : wpList Try.prog ops Q (o :: rest) a w := by
  obtain ⟨i, hi, hz, h1, h2⟩ := info_parts infoString
  obtain ⟨F, hF, hS, hown⟩ := hl
  subst hF
  refine wpList_append_own_at w hgd s x 65 ho ob 9 i _ 1 16 Try.underlying65 hi hz h1 h2 rfl (by omega) _ F.length (F.map Value.string) hs hown ⟨b, 0, none⟩ 1 1 [.string t] hx rfl (fun j u hj => ?_) (fun u hu => by simp at hu; subst hu; rfl) (by unfold maxLen; omega) (by omega) hbase ?_
  · match j, hj with
    | 0, hj => simp at hj; subst hj; simpa [Addr.add] using hb
    | j + 1, hj => simp at hj
  · intro v' w' h3 h4 _ h5
    have h6 : OwnT w' ob v' (F ++ [t]) := by
      unfold OwnT
      rw [List.map_append, List.length_append]
      exact h3
    obtain ⟨q, cap, e, _⟩ := h6.cells
    have e2 : (F ++ [t]).length = F.length + 1 := by simp
    rw [e2] at e
    subst e
    refine h q cap w' ⟨⟨q, cap, rfl, F ++ [t], by simp, fun s hs => ?_, h6⟩, h4, h5⟩
    rcases List.mem_append.1 hs with hs | hs
    · exact hS s hs
    · simp at hs; subst hs; exact ht
end Go.Proofs.Ytflcpcefjliijaa
