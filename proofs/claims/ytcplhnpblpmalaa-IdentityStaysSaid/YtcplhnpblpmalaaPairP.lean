/-
  PLAIN: what each item is given by its shape, in whatever order the lists are gone through.
-/
import Derived.Test.YtcplhnpblpmalaaIdQ
import Derived.Test.YtcplhnpblpmalaaIdC
namespace Go.Proofs.Ytcplhnpblpmalaa.Idn
set_option linter.unusedVariables false
set_option maxRecDepth 1000000

def givL (R : List En) (lf : Df → Bool) (s : ByteArray) : List Int := (R.filter fun y => decide (shp y.2 = s) && !lf (dfn y.2)).map (·.1)
def DifE (R : List En) : Prop := R.Pairwise fun a b => dfn a.2 ≠ dfn b.2
theorem givL_start (R : List En) (s : ByteArray) (f : Df → Bool) (h : ∀ y ∈ R, f (dfn y.2) = true) : givL R f s = [] := by
  unfold givL
  rw [List.filter_eq_nil_iff.2 (fun y hy => by simp [h y hy])]; rfl
theorem givL_step (R : List En) (lf : Df → Bool) (y : En) (hR : DifE R) (hy : y ∈ R) (h : lf (dfn y.2) = true) (s : ByteArray) :
    (givL R (fun z => lf z && !decide (z = dfn y.2)) s).Perm (if s = shp y.2 then givL R lf s ++ [y.1] else givL R lf s) := by
  obtain ⟨A, B, rfl⟩ := List.append_of_mem hy
  unfold DifE at hR
  rw [List.pairwise_append, List.pairwise_cons] at hR
  obtain ⟨_, ⟨hB, _⟩, hA⟩ := hR
  have eA : ∀ z ∈ A, dfn z.2 ≠ dfn y.2 := fun z hz => hA z hz y (by simp)
  have eB : ∀ z ∈ B, dfn z.2 ≠ dfn y.2 := fun z hz => (hB z hz).symm
  have fA : A.filter (fun z => decide (shp z.2 = s) && !(lf (dfn z.2) && !decide (dfn z.2 = dfn y.2))) = A.filter (fun z => decide (shp z.2 = s) && !lf (dfn z.2)) := List.filter_congr (fun z hz => by simp [eA z hz])
  have fB : B.filter (fun z => decide (shp z.2 = s) && !(lf (dfn z.2) && !decide (dfn z.2 = dfn y.2))) = B.filter (fun z => decide (shp z.2 = s) && !lf (dfn z.2)) := List.filter_congr (fun z hz => by simp [eB z hz])
  unfold givL
  rw [List.filter_append, List.filter_append, fA, List.filter_cons, fB, List.filter_cons]
  by_cases e : s = shp y.2
  · rw [if_pos e]
    simp only [h, Bool.not_true, Bool.and_false, decide_true, Bool.not_false, Bool.and_true, Bool.false_eq_true, if_false]
    rw [if_pos (by simp [e]), List.map_append, List.map_append, List.append_assoc]
    refine List.Perm.append_left _ ?_
    rw [List.map_cons]
    exact (List.perm_append_singleton _ _).symm
  · rw [if_neg e]
    have : ¬ shp y.2 = s := fun q => e q.symm
    simp [this]
theorem givL_end (R : List En) (lf : Df → Bool) (s : ByteArray) (h : ∀ y ∈ R, lf (dfn y.2) = false) : givL R lf s = (R.filter fun y => decide (shp y.2 = s)).map (·.1) := by
  unfold givL
  congr 1
  exact List.filter_congr (fun z hz => by rw [h z hz]; simp)
theorem givL_len (R : List En) (lf : Df → Bool) (s : ByteArray) : (givL R lf s).length ≤ R.length := by unfold givL; rw [List.length_map]; exact List.length_filter_le _ _
theorem at_key {R : List En} {d : Df} {y : En} (hR : DifE R) (hy : y ∈ R) (h : dfn y.2 = d) : at? R d = some y := by
  cases e : at? R d with
  | none => exact absurd h (at_none e y hy)
  | some z =>
    obtain ⟨hz, e2⟩ := at_some e
    rcases pw_dif (fun a b h => h.symm) hR hy hz with q | q
    · rw [q]
    · exact absurd (h.trans e2.symm) q

def isTak (ids : List Int) (l : List It) (s : ByteArray) (i : Nat) : Bool := decide (ids.getD i 0 = 0) && decide (shp (l.getD i it0) = s)
def takN (ids : List Int) (l : List It) (s : ByteArray) (j : Nat) : List Nat := (List.range j).filter (isTak ids l s)
def takZ (ids : List Int) (l : List It) (s : ByteArray) (j : Nat) : List Int := (takN ids l s j).map fun (i : Nat) => (i : Int)
theorem takZ_step (ids : List Int) (l : List It) (s : ByteArray) (j : Nat) : takZ ids l s (j + 1) = if isTak ids l s j = true then takZ ids l s j ++ [(j : Int)] else takZ ids l s j := by
  unfold takZ takN
  rw [List.range_succ, List.filter_append, List.map_append]
  by_cases h : isTak ids l s j = true
  · rw [if_pos h, List.filter_cons_of_pos h]; rfl
  · rw [if_neg h, List.filter_cons_of_neg h]; simp
theorem takZ_len (ids : List Int) (l : List It) (s : ByteArray) (j : Nat) : (takZ ids l s j).length ≤ j := by
  unfold takZ takN; rw [List.length_map]; exact Nat.le_trans (List.length_filter_le _ _) (by simp)
theorem takN_mem {ids : List Int} {l : List It} {s : ByteArray} {j i : Nat} : i ∈ takN ids l s j ↔ i < j ∧ ids.getD i 0 = 0 ∧ shp (l.getD i it0) = s := by
  unfold takN isTak; simp

/-- what an item is given at the end -/
def finI (ids : List Int) (l : List It) (zs : ByteArray → List Int) (i : Nat) : Int :=
  if ids.getD i 0 ≠ 0 then ids.getD i 0 else if (takZ ids l (shp (l.getD i it0)) l.length).length = 1 then (match zs (shp (l.getD i it0)) with | [z] => z | _ => 0) else 0
def curI (ids : List Int) (l : List It) (zs : ByteArray → List Int) (lf : ByteArray → Bool) (i : Nat) : Int := if lf (shp (l.getD i it0)) = true then ids.getD i 0 else finI ids l zs i
def curL (ids : List Int) (l : List It) (zs : ByteArray → List Int) (lf : ByteArray → Bool) : List Int := (List.range l.length).map (curI ids l zs lf)
theorem curL_len (ids : List Int) (l : List It) (zs : ByteArray → List Int) (lf : ByteArray → Bool) : (curL ids l zs lf).length = l.length := by simp [curL]
theorem curL_start (ids : List Int) (l : List It) (zs : ByteArray → List Int) (lf : ByteArray → Bool) (hl : ids.length = l.length) (h : ∀ i, i < l.length → ids.getD i 0 = 0 → lf (shp (l.getD i it0)) = true) : curL ids l zs lf = ids := by
  unfold curL
  refine List.ext_getElem (by simp [hl]) (fun i h1 h2 => ?_)
  have h3 : i < l.length := by simpa using h1
  have e : ids.getD i 0 = ids[i] := by simp [List.getD, List.getElem?_eq_getElem h2]
  simp only [List.getElem_map, List.getElem_range]
  unfold curI
  by_cases q : lf (shp (l.getD i it0)) = true
  · rw [if_pos q, e]
  · rw [if_neg q]
    have : ids.getD i 0 ≠ 0 := fun z => q (h i h3 z)
    unfold finI; rw [if_pos this, e]
theorem curL_end (ids : List Int) (l : List It) (zs : ByteArray → List Int) (lf : ByteArray → Bool) (h : ∀ i, i < l.length → lf (shp (l.getD i it0)) = false) : curL ids l zs lf = (List.range l.length).map (finI ids l zs) := by
  unfold curL
  refine List.map_congr_left (fun i hi => ?_)
  unfold curI; rw [h i (List.mem_range.1 hi)]; rfl
/-- the lists at a key have been gone through, and nothing is written -/
theorem curL_skip (ids : List Int) (l : List It) (zs : ByteArray → List Int) (lf : ByteArray → Bool) (s : ByteArray) (hs : lf s = true) (h : (takZ ids l s l.length).length ≠ 1 ∨ ∀ z, zs s ≠ [z]) :
    curL ids l zs (fun u => lf u && !decide (u = s)) = curL ids l zs lf := by
  unfold curL
  refine List.map_congr_left (fun i hi => ?_)
  unfold curI
  by_cases e : shp (l.getD i it0) = s
  · rw [e]
    simp only [hs, decide_true, Bool.not_true, Bool.and_false, Bool.false_eq_true, if_false, if_true]
    unfold finI
    rw [e]
    split
    · rfl
    · rename_i z
      have z' : ids.getD i 0 = 0 := by simpa using z
      rw [z']
      rcases h with h | h
      · rw [if_neg h]
      · split
        · split
          · rename_i u _ ; rename_i hu; exact absurd hu (h _)
          · rfl
        · rfl
  · have e' : decide (shp (l.getD i it0) = s) = false := decide_eq_false e
    simp only [e', Bool.not_false, Bool.and_true]
/-- .. and the one item gets the one number -/
theorem curL_set (ids : List Int) (l : List It) (zs : ByteArray → List Int) (lf : ByteArray → Bool) (s : ByteArray) (hs : lf s = true) (i0 : Nat) (z : Int) (h1 : takZ ids l s l.length = [(i0 : Int)]) (h2 : zs s = [z]) :
    curL ids l zs (fun u => lf u && !decide (u = s)) = (curL ids l zs lf).set i0 z := by
  have hN : takN ids l s l.length = [i0] := by
    unfold takZ at h1
    cases hh : takN ids l s l.length with
    | nil => rw [hh] at h1; cases h1
    | cons a b =>
      rw [hh] at h1
      simp only [List.map_cons, List.cons.injEq, List.map_eq_nil_iff] at h1
      rw [h1.2]; congr 1; omega
  have hi0 := (takN_mem (ids := ids) (l := l) (s := s) (j := l.length) (i := i0)).1 (by rw [hN]; simp)
  refine List.ext_getElem (by simp [curL]) (fun i h3 h4 => ?_)
  have hi : i < l.length := by simpa [curL] using h3
  rw [List.getElem_set]
  simp only [curL, List.getElem_map, List.getElem_range]
  unfold curI
  by_cases e : shp (l.getD i it0) = s
  · rw [e]
    simp only [hs, decide_true, Bool.not_true, Bool.and_false, Bool.false_eq_true, if_false, if_true]
    unfold finI
    rw [e]
    by_cases z0 : ids.getD i 0 = 0
    · rw [if_neg (by simpa using z0), h1, h2]
      have : i ∈ takN ids l s l.length := takN_mem.2 ⟨hi, z0, e⟩
      rw [hN, List.mem_singleton] at this
      rw [if_pos this.symm]; simp
    · rw [if_pos z0, if_neg (fun q => z0 (by rw [← q]; exact hi0.2.1))]
  · have : i0 ≠ i := fun q => e (by rw [← q]; exact hi0.2.2)
    have e' : decide (shp (l.getD i it0) = s) = false := decide_eq_false e
    rw [if_neg this]
    simp only [e', Bool.not_false, Bool.and_true]

/-- in the words of the lists: what the given list of identities is left with -/
theorem cnt_tak (ids : List Int) (l : List It) (hl : ids.length = l.length) (s : ByteArray) : (takZ ids l s l.length).length = ((ids.zip l).filter fun q => decide (q.1 = 0 ∧ shp q.2 = s)).length := by
  unfold takZ takN
  rw [List.length_map]
  have key : ids.zip l = (List.range l.length).map fun i => (ids.getD i 0, l.getD i it0) := by
    refine List.ext_getElem (by simp [hl]) (fun i h1 h2 => ?_)
    have h3 : i < l.length := by simpa using h2
    have h4 : i < ids.length := by omega
    simp [List.getD, List.getElem?_eq_getElem h3, List.getElem?_eq_getElem h4]
  rw [key, List.filter_map, List.length_map]
  congr 1
  refine List.filter_congr (fun i hi => ?_)
  unfold isTak
  simp
theorem fin_pair (ids : List Int) (l : List It) (R : List En) (zs : ByteArray → List Int) (hl : ids.length = l.length) (hz : ∀ s, (zs s).Perm ((R.filter fun y => decide (shp y.2 = s)).map (·.1))) :
    (List.range l.length).map (finI ids l zs) = (pairV R (ids.zip l)).map (·.1) := by
  unfold pairV
  rw [List.map_map]
  refine List.ext_getElem (by simp [hl]) (fun i h1 h2 => ?_)
  have h3 : i < l.length := by simpa using h1
  have h4 : i < ids.length := by omega
  have e1 : ids.getD i 0 = ids[i] := by simp [List.getD, List.getElem?_eq_getElem h4]
  have e2 : l.getD i it0 = l[i] := by simp [List.getD, List.getElem?_eq_getElem h3]
  simp only [List.getElem_map, List.getElem_range, Function.comp, List.getElem_zip]
  unfold finI pairId
  rw [e1, e2, cnt_tak ids l hl]
  split
  · rfl
  · split
    · have hp := hz (shp l[i])
      simp only
      cases hR : R.filter (fun y => decide (shp y.2 = shp l[i])) with
      | nil => rw [hR] at hp; have := hp.length_eq; simp at this; simp [this]
      | cons y M =>
        rw [hR] at hp
        cases M with
        | nil =>
          have : zs (shp l[i]) = [y.1] := by simpa using hp.eq_singleton
          rw [this]
        | cons y2 M =>
          have hlen := hp.length_eq
          simp at hlen
          cases hzs : zs (shp l[i]) with
          | nil => simp [hzs] at hlen
          | cons a b =>
            cases b with
            | nil => simp [hzs] at hlen
            | cons c d => rfl
    · rfl
end Go.Proofs.Ytcplhnpblpmalaa.Idn
