/-
  LAWS: how binds and faces lie in cells; binds as keys.
-/
import Derived.Test.YtheigpiffdabnaaMapP
import Derived.Test.YtheigpiffdabnaaMdP
import Derived.Test.YtheigpiffdabnaaChecked
import Derived.DeepKeys4
namespace Go.Proofs.Ytheigpiffdabnaa.Mds
open Go Go.RowKit Go.Maps
set_option linter.unusedVariables false
set_option maxRecDepth 1000000

def bdV (d : Bd) : Value := .agg #[.string d.1, .string d.2]
def bdC (d : Bd) : List Value := [.string d.1, .string d.2]
def encBd : Enc Bd := ⟨bdC, 2, fun _ => rfl, fun x v hv => by simp [bdC] at hv; rcases hv with rfl | rfl <;> rfl, by decide⟩
def encS : Enc ByteArray := ⟨fun s => [.string s], 1, fun _ => rfl, fun x v hv => by simp at hv; subst hv; rfl, by decide⟩
def encI : Enc Nat := ⟨fun n => [.int .i64 n], 1, fun _ => rfl, fun x v hv => by simp at hv; subst hv; rfl, by decide⟩
def encOf : Enc (Nat × Bd) := ⟨fun o => [.int .i64 o.1, .string o.2.1, .string o.2.2], 3, fun _ => rfl, fun x v hv => by simp at hv; rcases hv with rfl | rfl | rfl <;> rfl, by decide⟩
/-- a slice's value -/
abbrev Sv := Option Addr × Nat × Nat
def svV (s : Sv) : Value := .slice s.1 s.2.1 s.2.2
def encFc : Enc (ByteArray × Sv × Sv) := ⟨fun f => [.string f.1, svV f.2.1, svV f.2.2], 3, fun _ => rfl, fun x v hv => by simp [svV] at hv; rcases hv with rfl | rfl | rfl <;> rfl, by decide⟩
def encGv : Enc (Nat × Nat) := ⟨fun g => [.map (some g.1), .map (some g.2)], 2, fun _ => rfl, fun x v hv => by simp at hv; rcases hv with rfl | rfl <;> rfl, by decide⟩
def encSv : Enc Sv := ⟨fun s => [svV s], 1, fun _ => rfl, fun x v hv => by simp [svV] at hv; subst hv; rfl, by decide⟩
theorem laidOut : laidOutB Try.prog = true := by kernel_rfl
theorem bdKeyed : Keyed Try.prog 61 :=
  Keyed.of_law (deep_law_laid laidOut (m := 100) (by decide) (of_decide_eq_true (by kernel_rfl)) (by kernel_rfl) (by kernel_rfl))
theorem bdReads (d : Bd) (h1 : d.1.size ≤ maxLen) (h2 : d.2.size ≤ maxLen) : keyOf Try.prog 61 (bdV d) = some (.string (keyBytes [.string d.1.data.toList, .string d.2.data.toList])) := by
  have hk : Try.prog.keyType 61 = true := by kernel_rfl
  have hf : (bdV d).formed Try.prog 61 = true := by
    unfold Value.formed bdV
    simp only [Try.underlying61]
    kernel_rfl
  have ht1 : (Try.prog.cellsOf 61) = 2 := by kernel_rfl
  have ht2 : (Try.prog.cellsOf 9) = 1 := by kernel_rfl
  obtain ⟨m, hm⟩ : ∃ m, Try.prog.types.size = m + 1 := ⟨Try.prog.types.size - 1, by kernel_rfl⟩
  unfold keyOf
  simp only [Try.underlying61, hk, hf, Bool.and_self, if_true, hm]
  simp [Program.keyLits, Try.underlying61, Try.underlying9, ht1, ht2, bdV, Value.cells, h1, h2]
set_option maxRecDepth 100000 in
theorem bdInv (v : Value) (l : Lit) (h : keyOf Try.prog 61 v = some l) : ∃ d : Bd, (d.1.size ≤ maxLen ∧ d.2.size ≤ maxLen) ∧ v = bdV d := by
  have ht1 : (Try.prog.cellsOf 61) = 2 := by kernel_rfl
  have ht2 : (Try.prog.cellsOf 9) = 1 := by kernel_rfl
  obtain ⟨m, hm⟩ : ∃ m, Try.prog.types.size = m + 1 := ⟨Try.prog.types.size - 1, by kernel_rfl⟩
  unfold keyOf at h
  simp only [Try.underlying61, hm] at h
  split at h
  · rename_i hc
    simp only [Bool.and_eq_true] at hc
    have hf := hc.2
    unfold Value.formed at hf
    simp only [Try.underlying61, ht1] at hf
    cases v <;> simp at hf
    rename_i cs
    obtain ⟨cs⟩ := cs
    match cs, hf with
    | [c0, c1], z2 =>
      simp [Program.keyLits, Try.underlying61, Try.underlying9, ht1, ht2, Value.cells] at h
      clear hc z2
      cases c0 <;> simp at h
      rename_i s0
      by_cases q0 : s0.size ≤ maxLen
      · cases c1 <;> simp [q0] at h
        rename_i s1
        by_cases q1 : s1.size ≤ maxLen
        · exact ⟨(s0, s1), ⟨q0, q1⟩, rfl⟩
        · simp [q1] at h
      · simp [q0] at h
  · cases h
def bdKeys : KeyT Try.prog 61 Bd where
  ok d := d.1.size ≤ maxLen ∧ d.2.size ≤ maxLen
  mkv := bdV
  lit d := .string (keyBytes [.string d.1.data.toList, .string d.2.data.toList])
  keyed := bdKeyed
  reads d h := bdReads d h.1 h.2
  inj x y h := by
    unfold bdV at h
    simp only [Value.agg.injEq, Array.mk.injEq, List.cons.injEq, Value.string.injEq, and_true] at h
    exact Prod.ext h.1 h.2
  inv := bdInv
def tt (u : Unit) : Value := .bool true
def sKeys : KeyT Try.prog 9 ByteArray where
  ok s := s.size ≤ maxLen
  mkv s := .string s
  lit s := .string s.data.toList
  keyed := string_keyed Try.underlying9
  reads x hx := Go.WideMaps.keyOf_string_mk Try.underlying9 hx
  inj x y h := by injection h
  inv v l h := by
    cases v <;> simp [keyOf, Try.underlying9, mapKey] at h
    exact ⟨_, h.1, rfl⟩
end Go.Proofs.Ytheigpiffdabnaa.Mds
