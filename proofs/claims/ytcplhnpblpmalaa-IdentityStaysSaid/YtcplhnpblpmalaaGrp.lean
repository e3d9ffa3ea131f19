/-
  LAWS: a map of strings to lists of ints that grow, each in a row of its own.
-/
import Derived.Test.YtcplhnpblpmalaaIdF
import Derived.Maps.AppendAt
namespace Go.Proofs.Ytcplhnpblpmalaa.Idn
open Go Go.RowKit Go.Maps
set_option linter.unusedVariables false
set_option maxRecDepth 1000000
set_option linter.unusedSectionVars false

abbrev intT : TypeId := 3
def sKeys : KeyT Try.prog 9 ByteArray where
  ok s := s.size ≤ maxLen
  mkv s := .string s
  lit s := .string s.data.toList
  keyed := string_keyed Try.underlying9
  reads x hx := Go.WideMaps.keyOf_string_mk Try.underlying9 hx
  inj x y h := by injection h
  inv := (strKeys Try.underlying9).inv

/-- g: the slices, zs: what they read as -/
structure GrpG (w : World) (b cnt base : Nat) (g : ByteArray → Option Value) (zs : ByteArray → List Int) : Prop where
  map : MapAt sKeys id w b cnt g
  own : ∀ s v, g s = some v → OwnL encI intT w base v (zs s)
  full : ∀ s v, g s = some v → zs s ≠ []
  void : ∀ s, g s = none → zs s = []
  dif : ∀ s s' v v' k, g s = some v → g s' = some v' → v.ownBlock = .some k → v'.ownBlock = .some k → s = s'

def GrpAt (w : World) (b cnt base : Nat) (zs : ByteArray → List Int) : Prop := ∃ g, GrpG w b cnt base g zs

theorem GrpG.made (w : World) (base : Nat) : GrpG (w.alloc (.map #[] 0)) w.heap.size 0 base (fun _ => none) (fun _ => []) :=
  ⟨MapAt.made _ _ _, fun _ _ h => (by cases h), fun _ _ h => (by cases h), fun _ _ => rfl, fun _ _ _ _ _ h => (by cases h)⟩
theorem GrpG.below {w w' : World} {b cnt base : Nat} {g : ByteArray → Option Value} {zs : ByteArray → List Int} (h : GrpG w b cnt base g zs) (hb : Below w.heap.size w w') : GrpG w' b cnt base g zs :=
  ⟨h.map.below hb h.map.lt, fun s v e => (h.own s v e).below hb, h.full, h.void, h.dif⟩
/-- the slice that a look-up gives -/
def slOf (o : Option Value) : Value := match o with | some v => v | none => .slice none 0 0
theorem GrpG.slice {w : World} {b cnt base : Nat} {g : ByteArray → Option Value} {zs : ByteArray → List Int} (h : GrpG w b cnt base g zs) (s : ByteArray) : OwnL encI intT w base (slOf (g s)) (zs s) := by
  unfold slOf
  cases e : g s with
  | none => rw [h.void s e]; exact OwnL.isNil _ _ _ _
  | some v => exact h.own s v e
theorem own_cells {w : World} {base : Nat} {v : Value} {L : List Int} {k : Nat} (h : OwnL encI intT w base v L) (e : v.ownBlock = some k) : ∃ cur fr, w.heap[k]? = some (Obj.cells cur intT fr) := by
  obtain ⟨_, h2 | ⟨gb, cap, cur, e1, _, hg, _⟩⟩ := h
  · rw [h2.1] at e; cases e
  · rw [e1] at e; simp only [Value.ownBlock, Option.some.injEq] at e; subst e; exact ⟨_, _, hg⟩
theorem map_cells {w : World} {b cnt : Nat} {P : Program} {k : TypeId} {α β : Type} {K : KeyT P k α} {val : β → Value} {f : α → Option β} (h : MapAt K val w b cnt f) : ∃ es clock, w.heap[b]? = some (.map es clock) := by
  obtain ⟨D, ⟨es, clock, hb, _⟩, _⟩ := h
  exact ⟨es, clock, hb⟩
theorem own_same {w w' : World} {base : Nat} {v : Value} {L : List Int} (h : OwnL encI intT w base v L) (e : ∀ k, v.ownBlock = some k → w'.heap[k]? = w.heap[k]?) : OwnL encI intT w' base v L := by
  obtain ⟨h1, h2 | ⟨gb, cap, cur, e1, hb, hg, r⟩⟩ := h
  · exact ⟨h1, .inl h2⟩
  · exact ⟨h1, .inr ⟨gb, cap, cur, e1, hb, by rw [e gb (by rw [e1]; rfl)]; exact hg, r⟩⟩
def zput (zs : ByteArray → List Int) (s : ByteArray) (x : Int) : ByteArray → List Int := fun s' => if s' = s then zs s ++ [x] else zs s'
/-- an append and a store at one key -/
theorem GrpG.step {w w1 w2 : World} {b cnt cnt' base : Nat} {g : ByteArray → Option Value} {zs : ByteArray → List Int} {s : ByteArray} {x : Int} {v' : Value} (h : GrpG w b cnt base g zs)
    (h1 : OwnL encI intT w1 base v' (zs s ++ [x])) (hg : w.grownBy w1 (slOf (g s)).ownBlock) (hat : v'.ownBlock = (slOf (g s)).ownBlock ∨ ∃ k, v'.ownBlock = some k ∧ w.heap.size ≤ k)
    (h2 : MapAt sKeys id w2 b cnt' (updM g s (some v'))) (ht : w1.mapTurned w2 b) : GrpG w2 b cnt' base (updM g s (some v')) (zput zs s x) := by
  obtain ⟨es, clock, hmb⟩ := map_cells h.map
  have hsl := h.slice s
  have hb1 : w1.heap[b]? = some (.map es clock) := by
    rw [hg.block b h.map.lt ?_]
    · exact hmb
    · intro e
      obtain ⟨cur, fr, hc⟩ := own_cells hsl e.symm
      rw [hmb] at hc; cases hc
  have turned : ∀ (k : Nat) (cur : Array Value) (fr : Nat × Nat), w1.heap[k]? = some (Obj.cells cur intT fr) → w2.heap[k]? = w1.heap[k]? := by
    intro k cur fr hk
    have hlt : k < w1.heap.size := (Array.getElem?_eq_some_iff.1 hk).1
    refine ht.grown.block k hlt ?_
    intro e
    cases e
    rw [hb1] at hk; cases hk
  -- the others' rows
  have other : ∀ s' u, s' ≠ s → g s' = some u → OwnL encI intT w2 base u (zs s') := by
    intro s' u hne hu
    have ho := h.own s' u hu
    have ho1 : OwnL encI intT w1 base u (zs s') := own_same ho (fun k hk => by
      obtain ⟨cur, fr, hc⟩ := own_cells ho hk
      refine hg.block k ((Array.getElem?_eq_some_iff.1 hc).1) ?_
      intro e
      cases e2 : g s with
      | none => rw [e2] at e; simp [slOf, Value.ownBlock] at e
      | some v => rw [e2] at e; exact hne (h.dif s' s u v k hu e2 hk e.symm))
    exact own_same ho1 (fun k hk => by
      obtain ⟨cur, fr, hc⟩ := own_cells ho1 hk
      exact turned k cur fr hc)
  have mine : OwnL encI intT w2 base v' (zs s ++ [x]) := own_same h1 (fun k hk => by
    obtain ⟨cur, fr, hc⟩ := own_cells h1 hk
    exact turned k cur fr hc)
  have difs : ∀ s' u k, s' ≠ s → g s' = some u → u.ownBlock = some k → v'.ownBlock = some k → False := by
    intro s' u k hne hu hk hk'
    rcases hat with e | ⟨k1, e, hk1⟩
    · rw [e] at hk'
      cases e2 : g s with
      | none => rw [e2] at hk'; simp [slOf, Value.ownBlock] at hk'
      | some v => rw [e2] at hk'; exact hne (h.dif s' s u v k hu e2 hk hk')
    · rw [e] at hk'
      cases hk'
      obtain ⟨cur, fr, hc⟩ := own_cells (h.own s' u hu) hk
      have := (Array.getElem?_eq_some_iff.1 hc).1
      omega
  refine ⟨h2, fun s' u hu => ?_, fun s' u hu => ?_, fun s' hu => ?_, fun s' s'' u u' k hu hu' hk hk' => ?_⟩
  · by_cases e : s' = s
    · subst e; rw [updM_same] at hu; cases hu; unfold zput; rw [if_pos rfl]; exact mine
    · rw [updM_ne _ _ e] at hu; unfold zput; rw [if_neg e]; exact other s' u e hu
  · by_cases e : s' = s
    · subst e; unfold zput; rw [if_pos rfl]; simp
    · rw [updM_ne _ _ e] at hu; unfold zput; rw [if_neg e]; exact h.full s' u hu
  · by_cases e : s' = s
    · subst e; rw [updM_same] at hu; cases hu
    · rw [updM_ne _ _ e] at hu; unfold zput; rw [if_neg e]; exact h.void s' hu
  · by_cases e : s' = s
    · subst e
      rw [updM_same] at hu; cases hu
      by_cases e' : s'' = s'
      · exact e'.symm
      · rw [updM_ne _ _ e'] at hu'; exact (difs s'' u' k e' hu' hk' hk).elim
    · rw [updM_ne _ _ e] at hu
      by_cases e' : s'' = s
      · subst e'; rw [updM_same] at hu'; cases hu'; exact (difs s' u k e hu hk hk').elim
      · rw [updM_ne _ _ e'] at hu'; exact h.dif s' s'' u u' k hu hu' hk hk'
/-- what turns in a step lies from base on, or is the map -/
theorem GrpG.step_below {w w1 w2 : World} {b cnt base B : Nat} {g : ByteArray → Option Value} {zs : ByteArray → List Int} {s : ByteArray} (h : GrpG w b cnt base g zs) (hg : w.grownBy w1 (slOf (g s)).ownBlock) (ht : w1.mapTurned w2 b)
    (hB : B ≤ base) (hb : B ≤ b) (hw : B ≤ w.heap.size) : Below B w w2 := by
  have h1 : Below B w w1 := (Below.refl B w).grown hg hw (fun k hk => Nat.le_trans hB ((h.slice s).lt k hk).1)
  exact h1.trans (mapTurned_below ht hb (Nat.lt_of_lt_of_le h.map.lt hg.size))
/-- .. and but for the map, nothing below base turns -/
theorem GrpG.step_block {w w1 w2 : World} {b cnt base : Nat} {g : ByteArray → Option Value} {zs : ByteArray → List Int} {s : ByteArray} (h : GrpG w b cnt base g zs) (hg : w.grownBy w1 (slOf (g s)).ownBlock) (ht : w1.mapTurned w2 b)
    (k : Nat) (hk : k < base) (hb : k ≠ b) (hw : k < w.heap.size) : w2.heap[k]? = w.heap[k]? := by
  rw [ht.grown.block k (Nat.lt_of_lt_of_le hw hg.size) (by simpa using hb)]
  exact hg.block k hw (fun e => by have := ((h.slice s).lt k e.symm).1; omega)
theorem RangeAt.below {P : Program} {k : TypeId} {α β : Type} [DecidableEq α] {K : KeyT P k α} {val : β → Value} {w w' : World} {b r n cnt B : Nat} {f : α → Option β} {left : α → Bool} (h : RangeAt K val w b r n f left cnt) (hb : Below B w w') (h1 : b < B) (h2 : r < B) : RangeAt K val w' b r n f left cnt :=
  h.same (hb.block b h1) (hb.block r h2)
end Go.Proofs.Ytcplhnpblpmalaa.Idn
