/-
  LAWS: a list of identities is filled and sorted by its numbers.
-/
import Derived.Test.YtcplhnpblpmalaaKept
import Derived.Test.YtcplhnpblpmalaaShelf
namespace Go.Proofs.Ytcplhnpblpmalaa.Idn
open Go Go.RowKit Go.Maps
set_option linter.unusedVariables false
set_option maxRecDepth 1000000
set_option linter.unusedSimpArgs false

theorem number_append : ∀ (n : Int) (A B : List En), number n (A ++ B) = number n A ++ number (n + (zeros A : Nat)) B
  | n, [], B => by simp [number, zeros]
  | n, p :: A, B => by
    by_cases h : p.1 = 0
    · have e : n + (zeros (p :: A) : Nat) = n + 1 + (zeros A : Nat) := by rw [zeros_cons, if_pos h]; omega
      rw [e, List.cons_append]
      simp only [number, if_pos h, List.cons_append]
      rw [number_append (n + 1) A B]
    · have e : n + (zeros (p :: A) : Nat) = n + (zeros A : Nat) := by rw [zeros_cons, if_neg h]; omega
      rw [e, List.cons_append]
      simp only [number, if_neg h, List.cons_append]
      rw [number_append n A B]
theorem zeros_append (A B : List En) : zeros (A ++ B) = zeros A + zeros B := by unfold zeros; rw [List.filter_append, List.length_append]
def nxJ (next : Int) (Z : List En) (j : Nat) : Int := next + (zeros (Z.take j) : Nat)
def numJ (next : Int) (Z : List En) (j : Nat) : List En := number next (Z.take j) ++ List.replicate (Z.length - j) en0
def nth0 (next : Int) (Z : List En) (j : Nat) : Int := if (Z.getD j en0).1 = 0 then nxJ next Z j else (Z.getD j en0).1
theorem zeros_le (Z : List En) : zeros Z ≤ Z.length := List.length_filter_le _ _
theorem numJ_len (next : Int) (Z : List En) (j : Nat) (h : j ≤ Z.length) : (numJ next Z j).length = Z.length := by
  unfold numJ; rw [List.length_append, number_len, List.length_replicate, List.length_take]; omega
theorem nxJ_step (next : Int) (Z : List En) (j : Nat) (h : j < Z.length) : nxJ next Z (j + 1) = if (Z.getD j en0).1 = 0 then nxJ next Z j + 1 else nxJ next Z j := by
  unfold nxJ
  rw [take_one Z en0 j h, zeros_append, zeros_cons]
  split <;> simp [zeros] <;> omega
theorem numJ_step (next : Int) (Z : List En) (j : Nat) (h : j < Z.length) : (numJ next Z j).set j (nth0 next Z j, (Z.getD j en0).2) = numJ next Z (j + 1) := by
  unfold numJ
  have hl : (number next (Z.take j)).length = j := by rw [number_len, List.length_take]; omega
  rw [List.set_append_right _ _ (by omega), hl, Nat.sub_self, take_one Z en0 j h, number_append, List.append_assoc]
  congr 1
  obtain ⟨k, hk⟩ : ∃ k, Z.length - j = k + 1 := ⟨Z.length - j - 1, by omega⟩
  rw [hk, show Z.length - (j + 1) = k by omega, List.replicate_succ, List.set_cons_zero]
  unfold nth0 nxJ
  simp only [number]
  split <;> rfl
theorem numJ_end (next : Int) (Z : List En) : numJ next Z Z.length = number next Z := by unfold numJ; simp
theorem nxJ_end (next : Int) (Z : List En) : nxJ next Z Z.length = next + (zeros Z : Nat) := by unfold nxJ; rw [List.take_length]

theorem encEn_set (y : En) : ∀ (M : List En) (i : Nat), encEn.all (M.set i y) = ((((encEn.all M).set (i * 4) (.int .i64 y.1)).set (i * 4 + 1) (.string y.2.1)).set (i * 4 + 2) (.string y.2.2.1)).set (i * 4 + 3) (.string y.2.2.2)
  | [], i => by simp [Enc.all]
  | a :: M, 0 => by simp [Enc.all, encEn, enC]
  | a :: M, i + 1 => by
    rw [List.set_cons_succ, encEn.all_cons, encEn.all_cons, encEn_set y M i]
    have e : encEn.cells a = [.int .i64 a.1, .string a.2.1, .string a.2.2.1, .string a.2.2.2] := rfl
    rw [e, show (i + 1) * 4 + 3 = (i * 4 + 3) + 1 + 1 + 1 + 1 by omega, show (i + 1) * 4 + 2 = (i * 4 + 2) + 1 + 1 + 1 + 1 by omega, show (i + 1) * 4 + 1 = (i * 4 + 1) + 1 + 1 + 1 + 1 by omega, show (i + 1) * 4 = i * 4 + 1 + 1 + 1 + 1 by omega]
    simp only [List.cons_append, List.nil_append, List.set_cons_succ]

/-! ### the sort -/
open Go.Sort Go.Lib in
theorem swo_id : SWO (ltOf fun x y : En => Lib.compareInt x.1 y.1) := by
  have key : ∀ x y : En, ltOf (fun x y : En => Lib.compareInt x.1 y.1) x y = decide (x.1 < y.1) := by
    intro x y
    unfold ltOf Lib.compareInt
    by_cases h1 : x.1 < y.1
    · simp [h1]
    · by_cases h2 : y.1 < x.1 <;> simp [h1, h2]
  exact ⟨fun x => by rw [key]; simp, fun x y z h1 h2 => by rw [key] at *; simp at *; omega, fun x y z h1 h2 => by rw [key] at *; simp at *; omega⟩
open Go.Sort in
theorem lt_id (x y : En) : ltOf (fun x y : En => Lib.compareInt x.1 y.1) x y = decide (x.1 < y.1) := by
  unfold ltOf Lib.compareInt
  by_cases h1 : x.1 < y.1
  · simp [h1]
  · by_cases h2 : y.1 < x.1 <;> simp [h1, h2]
open Go.Sort in
/-- sorted by numbers that are apart: it is the list in the order of its numbers -/
theorem sorted_byId {Z : List En} (hz : Z.Pairwise fun a b => a.1 ≠ b.1) {d' : Array En} (hp : PermIn 0 Z.toArray.size Z.toArray d') (hs : SortedIn (ltOf fun x y : En => Lib.compareInt x.1 y.1) 0 Z.toArray.size d') : d'.toList = byId Z := by
  obtain ⟨h1, _, h3⟩ := hp
  have hperm : d'.toList.Perm Z := by
    have e1 : d'.extract 0 Z.toArray.size = d' := by rw [← h1]; simp
    rw [e1] at h3
    simpa using h3
  have hle : d'.toList.Pairwise fun a b => a.1 ≤ b.1 := by
    refine List.pairwise_iff_getElem.2 (fun i j hi hj hij => ?_)
    have := hs i j (Nat.zero_le _) hij (by rw [← h1]; simpa using hj)
    rw [lt_id] at this
    have hi' : i < d'.size := by simpa using hi
    have hj' : j < d'.size := by simpa using hj
    rw [getElem!_pos d' i hi', getElem!_pos d' j hj'] at this
    simp at this
    simpa using this
  have hne : d'.toList.Pairwise fun a b => a.1 ≠ b.1 := hperm.symm.pairwise hz (fun {a b} h => h.symm)
  have hlt : d'.toList.Pairwise fun a b => a.1 < b.1 := (hle.and hne).imp (fun {a b} h => by have := h.1; have := h.2; omega)
  exact asc_eq (hperm.trans (byId_perm Z).symm) hlt (byId_asc hz)

theorem closure_any (x y : En) (W : World) : Calls Try.prog 57 #[.agg #[.int .i64 x.1, .string x.2.1, .string x.2.2.1, .string x.2.2.2], .agg #[.int .i64 y.1, .string y.2.1, .string y.2.2.1, .string y.2.2.2]] W fun e w' => e = .returned (.int .i64 (Lib.compareInt x.1 y.1)) ∧ ∃ q os', w' = Sort.grow (W.drewN q) os' := by
  have hcon := fun W' => Try.cmp_Compare_int x.1 y.1 W'
  generalize Lib.compareInt x.1 y.1 = r at hcon ⊢
  go_enter Try.func57, Try.ntmps57
  go_wp2_with (go_at_call 58; refine (hcon _).mono ?_; rintro e w' ⟨rfl, rfl⟩)
  go_ret
  exact ⟨rfl, 0, _, by rw [Sort.alloc_eq_grow, Sort.alloc_eq_grow, Sort.grow_grow]; rfl⟩

/-- numbered's loop under way: tb the box of the result, gb the list -/
structure LoopN (w wr : World) (tb gb : Nat) (next : Int) (Z : List En) (j : Nat) : Prop where
  old : Below w.heap.size w wr
  own : OwnL encEn 39 wr w.heap.size (.slice (some ⟨gb, 0, none⟩) Z.length Z.length) (numJ next Z j)
  box : wr.heap[tb]? = some (.cells #[.int .i64 (nxJ next Z j), .slice (some ⟨gb, 0, none⟩) Z.length Z.length] 29 (0, 0))
  htb : w.heap.size ≤ tb
  hgb : w.heap.size ≤ gb
  ne : tb ≠ gb
theorem LoopN.below {w wr wx : World} {tb gb : Nat} {next : Int} {Z : List En} {j : Nat} (h : LoopN w wr tb gb next Z j) (hb : Below wr.heap.size wr wx) : LoopN w wx tb gb next Z j :=
  ⟨h.old.trans (hb.mono h.old.size), h.own.below hb, by rw [hb.block tb (Array.getElem?_eq_some_iff.1 h.box).1]; exact h.box, h.htb, h.hgb, h.ne⟩
theorem LoopN.cells {w wr : World} {tb gb : Nat} {next : Int} {Z : List En} {j : Nat} (h : LoopN w wr tb gb next Z j) :
    wr.cell? ⟨tb, 0, none⟩ = some (.int .i64 (nxJ next Z j)) ∧ wr.cell? ⟨tb, 1, none⟩ = some (.slice (some ⟨gb, 0, none⟩) Z.length Z.length) ∧ ∀ i, wr.frozen? ⟨tb, i, none⟩ = false :=
  ⟨by rw [Lib.cell_of_heap h.box]; rfl, by rw [Lib.cell_of_heap h.box]; rfl, fun i => Lib.frozen_of_heap h.box i⟩
theorem ownE_same {w w' : World} {base : Nat} {v : Value} {L : List En} (h : OwnL encEn 39 w base v L) (e : ∀ k, v.ownBlock = some k → w'.heap[k]? = w.heap[k]?) : OwnL encEn 39 w' base v L := by
  obtain ⟨h1, h2 | ⟨gb, cap, cur, e1, hb, hg, r⟩⟩ := h
  · exact ⟨h1, .inl h2⟩
  · exact ⟨h1, .inr ⟨gb, cap, cur, e1, hb, by rw [e gb (by rw [e1]; rfl)]; exact hg, r⟩⟩
theorem LoopN.slots {w wr : World} {tb gb : Nat} {next : Int} {Z : List En} {j : Nat} (h : LoopN w wr tb gb next Z j) (hj : j < Z.length) :
    (∃ v0 v1 v2 v3, wr.cell? ⟨gb, j * 4, none⟩ = some v0 ∧ wr.cell? ⟨gb, j * 4 + 1, none⟩ = some v1 ∧ wr.cell? ⟨gb, j * 4 + 2, none⟩ = some v2 ∧ wr.cell? ⟨gb, j * 4 + 3, none⟩ = some v3) ∧ ∀ i, wr.frozen? ⟨gb, i, none⟩ = false := by
  have ho := h.own
  have hl := numJ_len next Z j (by omega)
  refine ⟨?_, fun i => ?_⟩
  · obtain ⟨-, -, -, h3⟩ := ho.sl.lies
    obtain ⟨ib', io', e, hc⟩ := h3 (by omega)
    injection e with e; injection e with e1 e2 _
    subst e1; subst e2
    obtain ⟨q0, q1, q2, q3⟩ := enAt hc j (by rw [hl]; exact hj)
    rw [Nat.zero_add] at q0 q1 q2 q3
    exact ⟨_, _, _, _, q0, q1, q2, q3⟩
  · unfold OwnL at ho
    rw [hl] at ho
    exact World.ownsRow.frozenAt ho i
/-- the number goes on -/
theorem LoopN.bump {w wr : World} {tb gb : Nat} {next : Int} {Z : List En} {j : Nat} (h : LoopN w wr tb gb next Z j) (x : Int) :
    (wr.setCell ⟨tb, 0, none⟩ (.int .i64 x)).heap[tb]? = some (.cells #[.int .i64 x, .slice (some ⟨gb, 0, none⟩) Z.length Z.length] 29 (0, 0)) :=
  heap_setCell_same _ _ _ _ _ _ h.box
/-- one more is laid into the list -/
theorem LoopN.laid {w wr : World} {tb gb : Nat} {next : Int} {Z : List En} {j : Nat} (hj : j < Z.length) (old : Below w.heap.size w wr) (own : OwnL encEn 39 wr w.heap.size (.slice (some ⟨gb, 0, none⟩) Z.length Z.length) (numJ next Z j))
    (box : wr.heap[tb]? = some (.cells #[.int .i64 (nxJ next Z (j + 1)), .slice (some ⟨gb, 0, none⟩) Z.length Z.length] 29 (0, 0))) (htb : w.heap.size ≤ tb) (hgb : w.heap.size ≤ gb) (ne : tb ≠ gb) :
    LoopN w ((((wr.setCell ⟨gb, j * 4, none⟩ (.int .i64 (nth0 next Z j))).setCell ⟨gb, j * 4 + 1, none⟩ (.string (Z.getD j en0).2.1)).setCell ⟨gb, j * 4 + 2, none⟩ (.string (Z.getD j en0).2.2.1)).setCell ⟨gb, j * 4 + 3, none⟩ (.string (Z.getD j en0).2.2.2)) tb gb next Z (j + 1) := by
  have hl := numJ_len next Z j (by omega)
  have ho := own
  unfold OwnL at ho
  rw [hl] at ho
  obtain ⟨s1, g1⟩ := World.ownsRow.stored ho (j * 4) (.int .i64 (nth0 next Z j))
  obtain ⟨s2, g2⟩ := World.ownsRow.stored s1 (j * 4 + 1) (.string (Z.getD j en0).2.1)
  obtain ⟨s3, g3⟩ := World.ownsRow.stored s2 (j * 4 + 2) (.string (Z.getD j en0).2.2.1)
  obtain ⟨s4, g4⟩ := World.ownsRow.stored s3 (j * 4 + 3) (.string (Z.getD j en0).2.2.2)
  have hg := ((g1.trans g2).trans g3).trans g4
  have b1 : Below w.heap.size wr _ := (Below.refl _ _).grown hg old.size (fun k hk => by cases hk; exact hgb)
  refine ⟨old.trans b1, ?_, ?_, htb, hgb, ne⟩
  · unfold OwnL
    rw [numJ_len next Z (j + 1) (by omega), ← numJ_step next Z j hj, encEn_set]
    exact s4
  · rw [hg.block tb (Array.getElem?_eq_some_iff.1 box).1 (by simpa using ne)]
    exact box
end Go.Proofs.Ytcplhnpblpmalaa.Idn
