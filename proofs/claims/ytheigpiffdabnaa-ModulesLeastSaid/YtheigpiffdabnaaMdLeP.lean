/-
  PLAIN: what modules give is a solution; their order does not matter; what is given is defined.
-/
import Derived.Test.YtheigpiffdabnaaMdP
namespace Go.Proofs.Ytheigpiffdabnaa.Mds
open Go
set_option linter.unusedVariables false
set_option linter.unusedSimpArgs false

/-- a solution -/
theorem giv_step {l : List Fc} {i : Nat} {f : Fc} (hf : l[i]? = some f) (b : Bd) : Giv l i b ↔ b ∈ ownB f ∨ ((∃ m ∈ f.pub, ∃ k, firstI l m = some k ∧ Giv l k b) ∧ b.1 ∉ visL f.own) := by
  constructor
  · intro h
    cases h with
    | own h1 hb =>
      rw [hf] at h1
      injection h1 with h1
      subst h1
      exact .inl hb
    | took hg h1 hm hi hh =>
      rw [hf] at h1
      injection h1 with h1
      subst h1
      refine .inr ⟨⟨_, hm, _, hi, hg⟩, fun q => ?_⟩
      rw [(hides_iff f b.1).2 q] at hh
      cases hh
  · rintro (h | ⟨⟨m, hm, k, hk, hg⟩, hn⟩)
    · exact .own hf h
    · refine .took hg hf hm hk ?_
      cases e : hides f b.1 with
      | false => rfl
      | true => exact absurd ((hides_iff f b.1).1 e) hn
theorem firstI_mo {l : List Fc} {m : ByteArray} {i : Nat} (h : firstI l m = some i) : ∃ f, l[i]? = some f ∧ f.mo = m := by
  unfold firstI at h
  obtain ⟨h1, h2, _⟩ := List.findIdx?_eq_some_iff_getElem.1 h
  exact ⟨l[i], List.getElem?_eq_getElem h1, of_decide_eq_true h2⟩
theorem firstI_apart {l : List Fc} {m : ByteArray} {i : Nat} {f : Fc} (hn : (l.map Fc.mo).Nodup) (h : l[i]? = some f) (hm : f.mo = m) : firstI l m = some i := by
  obtain ⟨hi, rfl⟩ := List.getElem?_eq_some_iff.1 h
  unfold firstI
  refine List.findIdx?_eq_some_iff_getElem.2 ⟨hi, by simp [hm], fun j hj => ?_⟩
  have h2 := List.pairwise_iff_getElem.1 hn j i (by simp; omega) (by simpa using hi) hj
  simp only [List.getElem_map] at h2
  simp only [decide_eq_true_eq]
  intro e
  exact h2 (e.trans hm.symm)
/-- in another order -/
theorem rot_get {l : List Fc} (hl : l.length = 4) {k : Nat} (hk : k ≤ 4) (i : Nat) (hi : i < 4) : (l.drop k ++ l.take k)[i]? = l[(i + k) % 4]? := by
  by_cases h : i < 4 - k
  · rw [List.getElem?_append_left (by rw [List.length_drop]; omega), List.getElem?_drop, show (i + k) % 4 = k + i by omega]
  · rw [List.getElem?_append_right (by rw [List.length_drop]; omega), List.length_drop, hl, List.getElem?_take_of_lt (by omega), show (i + k) % 4 = i - (4 - k) by omega]
theorem giv_rot1 {l : List Fc} (hl : l.length = 4) {k : Nat} (hk : k ≤ 4) (hn : (l.map Fc.mo).Nodup) {i : Nat} {b : Bd} (h : Giv (l.drop k ++ l.take k) i b) : Giv l ((i + k) % 4) b := by
  have hlen : (l.drop k ++ l.take k).length = 4 := by rw [List.length_append, List.length_drop, List.length_take]; omega
  have key : ∀ (i : Nat) (f : Fc), (l.drop k ++ l.take k)[i]? = some f → l[(i + k) % 4]? = some f := fun i f h => by
    have hi : i < 4 := by have := (List.getElem?_eq_some_iff.1 h).1; omega
    rw [rot_get hl hk i hi] at h
    exact h
  generalize l.drop k ++ l.take k = l2 at *
  induction h with
  | own h1 hb => exact .own (key _ _ h1) hb
  | took _ h1 hm hi hh ih =>
    obtain ⟨f2, g1, g2⟩ := firstI_mo hi
    exact .took ih (key _ _ h1) hm (firstI_apart hn (key _ _ g1) g2) hh
theorem rot_rot {l : List Fc} (hl : l.length = 4) {k : Nat} (hk : k ≤ 4) : (l.drop k ++ l.take k).drop (4 - k) ++ (l.drop k ++ l.take k).take (4 - k) = l := by
  have h1 : (l.drop k).length = 4 - k := by rw [List.length_drop, hl]
  rw [← h1, List.drop_left, List.take_left, List.take_append_drop]
theorem giv_rot {l : List Fc} (hl : l.length = 4) {k : Nat} (hk : k < 4) (hn : (l.map Fc.mo).Nodup) {i : Nat} (hi : i < 4) (b : Bd) : Giv (l.drop k ++ l.take k) i b ↔ Giv l ((i + k) % 4) b := by
  refine ⟨giv_rot1 hl (by omega) hn, fun h => ?_⟩
  have hlen : (l.drop k ++ l.take k).length = 4 := by rw [List.length_append, List.length_drop, List.length_take]; omega
  have hn2 : ((l.drop k ++ l.take k).map Fc.mo).Nodup := by
    rw [List.map_append]
    refine (List.perm_append_comm.nodup_iff).1 ?_
    rw [← List.map_append, List.take_append_drop]
    exact hn
  rw [← rot_rot hl (show k ≤ 4 by omega)] at h
  have h2 := giv_rot1 hlen (show 4 - k ≤ 4 by omega) hn2 h
  rw [show ((i + k) % 4 + (4 - k)) % 4 = i by omega] at h2
  exact h2
/-- what is given, somebody defines -/
theorem giv_defined {l : List Fc} {i : Nat} {b : Bd} (h : Giv l i b) : ∃ (j : Nat) (f : Fc), l[j]? = some f ∧ b.1 ∈ f.own ∧ b.2 = defB f.mo b.1 := by
  obtain ⟨j, f, h1, h2⟩ := h.name
  unfold ownB bindsOf at h2
  obtain ⟨s, hs, rfl⟩ := List.mem_map.1 h2
  exact ⟨j, f, h1, (List.mem_filter.1 (show s ∈ f.own.filter _ from hs)).1, rfl⟩
end Go.Proofs.Ytheigpiffdabnaa.Mds
