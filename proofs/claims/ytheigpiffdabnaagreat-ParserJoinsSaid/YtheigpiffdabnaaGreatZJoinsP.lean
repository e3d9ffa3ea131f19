/-
  PLAIN: two texts without errors with one of the seven texts between them.
-/
import Derived.Test.YtheigpiffdabnaaGreatZJ2
import Derived.Test.YtheigpiffdabnaaGreatZJ3
import Derived.Test.YtheigpiffdabnaaGreatZG5
set_option linter.unusedSimpArgs false
set_option linter.unusedVariables false
namespace Go.Proofs.YtheigpiffdabnaaGreat
open Go Go.RowKit
def wrongs : List ByteArray := [⟨#[]⟩, ⟨#[102, 110, 32, 102, 40]⟩, ⟨#[63]⟩, ⟨#[99, 111, 110, 115, 116, 32, 99, 32, 105, 110, 116, 32, 61, 32, 49, 59]⟩, ⟨#[116, 121, 112, 101, 32, 84, 32, 123, 32, 120, 32, 125]⟩, ⟨#[108, 101, 116, 32, 120, 32, 61, 32, 49, 59]⟩, ⟨#[105, 109, 112, 108, 32, 65, 32, 66, 32, 123]⟩]
theorem wrongs_size : ∀ s ∈ wrongs, s.size ≤ 16 := by decide
theorem none_toks : (Lx.toks ⟨#[]⟩).map ktT = [] ++ [(0, ByteArray.empty)] := by kernel_rfl
theorem joinS (a b W : ByteArray) : ((((a ++ ⟨#[10]⟩) ++ W) ++ ⟨#[10]⟩) ++ b).data.toList = a.data.toList ++ 10 :: (W.data.toList ++ 10 :: b.data.toList) := by
 simp only [Gr.cat, List.append_assoc]
 rfl
theorem wrong_toks {W : ByteArray} (h : W ∈ wrongs) : ∃ K, (Lx.toks W).map ktT = K ++ [(0, ByteArray.empty)] ∧ (K = [] ∨ Bad K) ∧ (K = [] ↔ W = ⟨#[]⟩) := by
 unfold wrongs at h
 simp only [List.mem_cons, List.not_mem_nil, or_false] at h
 rcases h with rfl | rfl | rfl | rfl | rfl | rfl | rfl
 ·exact ⟨[], none_toks, .inl rfl, ⟨fun _ => rfl, fun _ => rfl⟩⟩
 ·exact ⟨bad1, bad1_toks, .inr bad1_bad, ⟨fun e => absurd e (by decide), fun e => absurd e (by decide)⟩⟩
 ·exact ⟨bad2, bad2_toks, .inr bad2_bad, ⟨fun e => absurd e (by decide), fun e => absurd e (by decide)⟩⟩
 ·exact ⟨bad3, bad3_toks, .inr bad3_bad, ⟨fun e => absurd e (by decide), fun e => absurd e (by decide)⟩⟩
 ·exact ⟨bad4, bad4_toks, .inr bad4_bad, ⟨fun e => absurd e (by decide), fun e => absurd e (by decide)⟩⟩
 ·exact ⟨bad5, bad5_toks, .inr bad5_bad, ⟨fun e => absurd e (by decide), fun e => absurd e (by decide)⟩⟩
 ·exact ⟨bad6, bad6_toks, .inr bad6_bad, ⟨fun e => absurd e (by decide), fun e => absurd e (by decide)⟩⟩
theorem wrong_join {a b W : ByteArray} (hW : W ∈ wrongs) (hs : ((((a ++ ⟨#[10]⟩) ++ W) ++ ⟨#[10]⟩) ++ b).size ≤ 20000) {x y : List Tree} (ha : modOf a = some (x, [])) (hb : modOf b = some (y, [])) :
  ∃ z g, modOf ((((a ++ ⟨#[10]⟩) ++ W) ++ ⟨#[10]⟩) ++ b) = some (z, g) ∧ LR PA (x ++ y) z ∧ (g = [] ↔ W = ⟨#[]⟩) := by
 obtain ⟨K, h1, h2, h3⟩ := wrong_toks hW
 obtain ⟨z, g, e1, e2, e3⟩ := mod_joinT (joinS a b W) hs h1 h2 ha hb
 exact ⟨z, g, e1, e2, e3.trans h3⟩
theorem joins_strip {x y z : List Tree} (h : LR PA (x ++ y) z) : z.length = x.length + y.length ∧ (∀ i (hx : i < x.length) (hz : i < z.length), strip z[i] = strip x[i]) ∧ (∀ i (h1 : x.length ≤ i) (hz : i < z.length) (hy : i - x.length < y.length), strip z[i] = strip y[i - x.length]) := by
 obtain ⟨hl, ht⟩ := h
 rw [List.length_append] at hl
 refine ⟨hl.symm, fun i hx hz => ?_, fun i h1 hz hy => ?_⟩
 ·have := ht i (by rw [List.length_append]; omega) hz
  rw [List.getElem_append_left hx] at this
  exact (TR.strip _ _ _ (Nat.lt_succ_self _) this).symm
 ·have := ht i (by rw [List.length_append]; omega) hz
  rw [List.getElem_append_right h1] at this
  exact (TR.strip _ _ _ (Nat.lt_succ_self _) this).symm
theorem made_mod {s : ByteArray} (h : Gr.grP.T s) (hs : s.size ≤ 20000) : ∃ ts, modOf s = some (ts, []) := Gr.TextS.mod h hs
end Go.Proofs.YtheigpiffdabnaaGreat
