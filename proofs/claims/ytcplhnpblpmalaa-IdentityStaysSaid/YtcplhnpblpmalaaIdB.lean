/-
  LAWS: lists of items and identities as they lie; what a map of definitions holds behind a list.
-/
import Derived.Test.YtcplhnpblpmalaaIdE
namespace Go.Proofs.Ytcplhnpblpmalaa.Idn
open Go Go.RowKit Go.Maps
set_option linter.unusedVariables false
set_option maxRecDepth 1000000

theorem snocRec {α : Type} {motive : List α → Prop} (nil : motive []) (snoc : ∀ L y, motive L → motive (L ++ [y])) : ∀ L, motive L := by
  intro L
  rw [← List.reverse_reverse L]
  induction L.reverse with
  | nil => exact nil
  | cons x M ih => rw [List.reverse_cons]; exact snoc _ _ ih
def en0 : En := (0, ⟨#[]⟩, ⟨#[]⟩, ⟨#[]⟩)
def it0 : It := (⟨#[]⟩, ⟨#[]⟩, ⟨#[]⟩)
theorem enAt {w : World} {b off : Nat} {L : List En} (h : CellsAt w b off (encEn.all L)) (i : Nat) (hi : i < L.length) :
    w.cell? ⟨b, off + i * 4, none⟩ = some (.int .i64 (L.getD i en0).1) ∧ w.cell? ⟨b, off + i * 4 + 1, none⟩ = some (.string (L.getD i en0).2.1) ∧ w.cell? ⟨b, off + i * 4 + 2, none⟩ = some (.string (L.getD i en0).2.2.1) ∧ w.cell? ⟨b, off + i * 4 + 3, none⟩ = some (.string (L.getD i en0).2.2.2) := by
  have e : L.getD i en0 = L[i] := by simp [List.getD, List.getElem?_eq_getElem hi]
  rw [e]
  exact ⟨h.elem i hi 0 (by decide) _ rfl, h.elem i hi 1 (by decide) _ rfl, h.elem i hi 2 (by decide) _ rfl, h.elem i hi 3 (by decide) _ rfl⟩
theorem itAt {w : World} {b off : Nat} {L : List It} (h : CellsAt w b off (encIt.all L)) (i : Nat) (hi : i < L.length) :
    w.cell? ⟨b, off + i * 3, none⟩ = some (.string (L.getD i it0).1) ∧ w.cell? ⟨b, off + i * 3 + 1, none⟩ = some (.string (L.getD i it0).2.1) ∧ w.cell? ⟨b, off + i * 3 + 2, none⟩ = some (.string (L.getD i it0).2.2) := by
  have e : L.getD i it0 = L[i] := by simp [List.getD, List.getElem?_eq_getElem hi]
  rw [e]
  exact ⟨h.elem i hi 0 (by decide) _ rfl, h.elem i hi 1 (by decide) _ rfl, h.elem i hi 2 (by decide) _ rfl⟩
theorem intAt {w : World} {b off : Nat} {L : List Int} (h : CellsAt w b off (encI.all L)) (i : Nat) (hi : i < L.length) : w.cell? ⟨b, off + i, none⟩ = some (.int .i64 (L.getD i 0)) := by
  have e : L.getD i 0 = L[i] := by simp [List.getD, List.getElem?_eq_getElem hi]
  rw [e]
  have := h.elem i hi 0 (by decide) _ rfl
  have e2 : encI.size = 1 := rfl
  rw [e2] at this
  simpa using this
theorem fitE_at {L : List En} (h : FitsE L) (i : Nat) (hi : i < L.length) : FitE (L.getD i en0) := by
  have e : L.getD i en0 = L[i] := by simp [List.getD, List.getElem?_eq_getElem hi]
  rw [e]; exact h _ (List.getElem_mem hi)
theorem fitI_at {L : List It} (h : FitsI L) (i : Nat) (hi : i < L.length) : FitI (L.getD i it0) := by
  have e : L.getD i it0 = L[i] := by simp [List.getD, List.getElem?_eq_getElem hi]
  rw [e]; exact h _ (List.getElem_mem hi)
theorem take_one {α : Type} (L : List α) (d : α) (j : Nat) (h : j < L.length) : L.take (j + 1) = L.take j ++ [L.getD j d] := by
  rw [List.take_add_one]; simp [List.getD, List.getElem?_eq_getElem h]

/-- what the map of definitions holds behind a list: the last one with a definition; how many -/
def bdF : List En → Df → Option En := fun L => L.foldl (fun f y => updM f (dfn y.2) (some y)) (fun _ => none)
def bdC : List En → Nat := fun L => (L.foldl (fun (a : (Df → Option En) × Nat) y => (updM a.1 (dfn y.2) (some y), cntPut a.1 (dfn y.2) a.2)) ((fun _ => none), 0)).2
theorem bd_fst (L : List En) : ∀ a : (Df → Option En) × Nat, (L.foldl (fun (a : (Df → Option En) × Nat) y => (updM a.1 (dfn y.2) (some y), cntPut a.1 (dfn y.2) a.2)) a).1 = L.foldl (fun f y => updM f (dfn y.2) (some y)) a.1 := by
  induction L with
  | nil => intro a; rfl
  | cons x L ih => intro a; simp only [List.foldl_cons]; rw [ih]
theorem bdF_snoc (L : List En) (y : En) : bdF (L ++ [y]) = updM (bdF L) (dfn y.2) (some y) := by unfold bdF; rw [List.foldl_append]; rfl
theorem bdC_snoc (L : List En) (y : En) : bdC (L ++ [y]) = cntPut (bdF L) (dfn y.2) (bdC L) := by
  unfold bdC
  rw [List.foldl_append]
  simp only [List.foldl_cons, List.foldl_nil]
  rw [bd_fst]; rfl
theorem bdC_le (L : List En) : bdC L ≤ L.length := by
  induction L using snocRec with
  | nil => exact Nat.le_refl _
  | snoc L y ih => rw [bdC_snoc, List.length_append]; unfold cntPut; split <;> simp <;> omega
theorem bdF_none (L : List En) (d : Df) : bdF L d = none ↔ ∀ y ∈ L, dfn y.2 ≠ d := by
  induction L using snocRec with
  | nil => simp [bdF]
  | snoc L y ih =>
    rw [bdF_snoc]
    unfold updM
    by_cases e : d = dfn y.2
    · rw [if_pos e]
      simp only [reduceCtorEq, false_iff]
      intro h
      exact h y (by simp) e.symm
    · rw [if_neg e, ih]
      constructor
      · intro h z hz
        rcases List.mem_append.1 hz with q | q
        · exact h z q
        · rw [List.mem_singleton] at q; subst q; exact fun k => e k.symm
      · intro h z hz; exact h z (by simp [hz])
/-- as many as the list is long: no definition comes twice -/
theorem bdC_full (L : List En) : bdC L = L.length ↔ L.Pairwise fun a b => dfn a.2 ≠ dfn b.2 := by
  induction L using snocRec with
  | nil => simp [bdC]
  | snoc L y ih =>
    rw [bdC_snoc, List.length_append, List.pairwise_append, List.length_singleton]
    have hle := bdC_le L
    unfold cntPut
    cases e : bdF L (dfn y.2) with
    | some z =>
      simp only [Option.isSome_some, if_true]
      constructor
      · intro h; omega
      · rintro ⟨_, _, h⟩
        have : bdF L (dfn y.2) = none := (bdF_none L _).2 (fun z hz => h z hz y (by simp))
        rw [this] at e; cases e
    | none =>
      have hn := (bdF_none L _).1 e
      simp only [Option.isSome_none, Bool.false_eq_true, if_false]
      constructor
      · intro h; exact ⟨ih.1 (by omega), by simp, fun a ha b hb => by rw [List.mem_singleton] at hb; subst hb; exact hn a ha⟩
      · rintro ⟨h, _, _⟩; rw [ih.2 h]
theorem bdF_mem {L : List En} {d : Df} {y : En} (h : bdF L d = some y) : y ∈ L ∧ dfn y.2 = d := by
  induction L using snocRec with
  | nil => simp [bdF] at h
  | snoc L x ih =>
    rw [bdF_snoc] at h
    unfold updM at h
    split at h
    · cases h; exact ⟨by simp, by rename_i e; exact e.symm⟩
    · exact ⟨by simp [(ih h).1], (ih h).2⟩
theorem bdF_at {next : Int} {L : List En} (hc : Chk next L) (d : Df) : bdF L d = at? L d := by
  cases e : bdF L d with
  | none =>
    cases e2 : at? L d with
    | none => rfl
    | some y => exact absurd (at_some e2).2 ((bdF_none L d).1 e y (at_some e2).1)
  | some y =>
    obtain ⟨h1, rfl⟩ := bdF_mem e
    exact (at_mem hc h1).symm
end Go.Proofs.Ytcplhnpblpmalaa.Idn
