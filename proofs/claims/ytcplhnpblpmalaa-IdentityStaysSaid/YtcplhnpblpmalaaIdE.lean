/-
  LAWS: how items, identities and definitions lie in cells; definitions as keys.
-/
import Derived.Test.YtcplhnpblpmalaaMapP
import Derived.Test.YtcplhnpblpmalaaIdP
import Derived.Test.YtcplhnpblpmalaaChecked
import Derived.DeepKeys4
namespace Go.Proofs.Ytcplhnpblpmalaa.Idn
open Go Go.RowKit Go.Maps
set_option linter.unusedVariables false
set_option maxRecDepth 1000000

def itC (x : It) : List Value := [.string x.1, .string x.2.1, .string x.2.2]
def enC (y : En) : List Value := [.int .i64 y.1, .string y.2.1, .string y.2.2.1, .string y.2.2.2]
def itV (x : It) : Value := .agg #[.string x.1, .string x.2.1, .string x.2.2]
def enV (y : En) : Value := .agg #[.int .i64 y.1, .string y.2.1, .string y.2.2.1, .string y.2.2.2]
def dfV (d : Df) : Value := .agg #[.string d.1, .string d.2]
def encIt : Enc It := ⟨itC, 3, fun _ => rfl, fun x v hv => by simp [itC] at hv; rcases hv with rfl | rfl | rfl <;> rfl, by decide⟩
def encEn : Enc En := ⟨enC, 4, fun _ => rfl, fun x v hv => by simp [enC] at hv; rcases hv with rfl | rfl | rfl | rfl <;> rfl, by decide⟩
def encI : Enc Int := ⟨fun n => [.int .i64 n], 1, fun _ => rfl, fun x v hv => by simp at hv; subst hv; rfl, by decide⟩

/-- strings that are strings of the model -/
def FitI (x : It) : Prop := x.1.size ≤ maxLen ∧ x.2.1.size ≤ maxLen ∧ x.2.2.size ≤ maxLen
def FitE (y : En) : Prop := FitI y.2 ∧ (Lit.int .i64 y.1).wf = true
def FitsI (l : List It) : Prop := ∀ x ∈ l, FitI x
def FitsE (L : List En) : Prop := ∀ y ∈ L, FitE y

theorem laidOut : laidOutB Try.prog = true := by kernel_rfl
theorem dfKeyed : Keyed Try.prog 77 :=
  Keyed.of_law (deep_law_laid laidOut (m := 100) (by decide) (of_decide_eq_true (by kernel_rfl)) (by kernel_rfl) (by kernel_rfl))
theorem dfReads (d : Df) (h1 : d.1.size ≤ maxLen) (h2 : d.2.size ≤ maxLen) : keyOf Try.prog 77 (dfV d) = some (.string (keyBytes [.string d.1.data.toList, .string d.2.data.toList])) := by
  have hk : Try.prog.keyType 77 = true := by kernel_rfl
  have hf : (dfV d).formed Try.prog 77 = true := by
    unfold Value.formed dfV
    simp only [Try.underlying77]
    kernel_rfl
  have ht1 : (Try.prog.cellsOf 77) = 2 := by kernel_rfl
  have ht2 : (Try.prog.cellsOf 9) = 1 := by kernel_rfl
  obtain ⟨m, hm⟩ : ∃ m, Try.prog.types.size = m + 1 := ⟨Try.prog.types.size - 1, by kernel_rfl⟩
  unfold keyOf
  simp only [Try.underlying77, hk, hf, Bool.and_self, if_true, hm]
  simp [Program.keyLits, Try.underlying77, Try.underlying9, ht1, ht2, dfV, Value.cells, h1, h2]
set_option maxRecDepth 100000 in
theorem dfInv (v : Value) (l : Lit) (h : keyOf Try.prog 77 v = some l) : ∃ d : Df, (d.1.size ≤ maxLen ∧ d.2.size ≤ maxLen) ∧ v = dfV d := by
  have ht1 : (Try.prog.cellsOf 77) = 2 := by kernel_rfl
  have ht2 : (Try.prog.cellsOf 9) = 1 := by kernel_rfl
  obtain ⟨m, hm⟩ : ∃ m, Try.prog.types.size = m + 1 := ⟨Try.prog.types.size - 1, by kernel_rfl⟩
  unfold keyOf at h
  simp only [Try.underlying77, hm] at h
  split at h
  · rename_i hc
    simp only [Bool.and_eq_true] at hc
    have hf := hc.2
    unfold Value.formed at hf
    simp only [Try.underlying77, ht1] at hf
    cases v <;> simp at hf
    rename_i cs
    obtain ⟨cs⟩ := cs
    match cs, hf with
    | [c0, c1], z2 =>
      simp [Program.keyLits, Try.underlying77, Try.underlying9, ht1, ht2, Value.cells] at h
      clear hc z2
      cases c0 <;> simp at h
      rename_i s0
      by_cases q0 : s0.size ≤ maxLen
      · cases c1 <;> simp [q0] at h
        rename_i s1
        by_cases q1 : s1.size ≤ maxLen
        · exact ⟨(s0, s1), ⟨q0, q1⟩, rfl⟩
        · simp [q1] at h
      · simp [q0] at h
  · cases h
def dfKeys : KeyT Try.prog 77 Df where
  ok d := d.1.size ≤ maxLen ∧ d.2.size ≤ maxLen
  mkv := dfV
  lit d := .string (keyBytes [.string d.1.data.toList, .string d.2.data.toList])
  keyed := dfKeyed
  reads d h := dfReads d h.1 h.2
  inj x y h := by
    unfold dfV at h
    simp only [Value.agg.injEq, Array.mk.injEq, List.cons.injEq, Value.string.injEq, and_true] at h
    exact Prod.ext h.1 h.2
  inv := dfInv
end Go.Proofs.Ytcplhnpblpmalaa.Idn
