/-
  PLAIN FACTS ON BYTES, MORE: gaps, lines, marks, runs. No program, no world.
-/
import Derived.Test.YtheigpiffdabnaaGreatZA2
import Derived.Lib.Bytealg
import Derived.Shelf.Small.Strs
import Derived.Shelf.Strings.Search1
import Derived.Shelf.Strings.Prefix
import Derived.Test.YtheigpiffdabnaaGreatProg
set_option linter.unusedVariables false
namespace Go.Proofs.YtheigpiffdabnaaGreat
namespace Lx
theorem index_line : ∀ l : Bs, Lib.indexByte l 10 = if lineLen l < l.length then (lineLen l : Int) else -1
 | [] => by simp [Lib.indexByte, lineLen]
 | b :: l => by
  have ih := index_line l
  have hle := lineLen_le l
  unfold Lib.indexByte
  by_cases hb : b = 10
  ·subst hb
   have : notLf 10 = false := rfl
   simp [lineLen, this]
  ·have hb1 : (b == 10) = false := by simpa using hb
   have hn : notLf b = true := by
    unfold notLf
    have : b.toNat ≠ 10 := fun e => hb (UInt8.toNat_inj.1 e)
    simp; omega
   have hl : lineLen (b :: l) = lineLen l + 1 := by unfold lineLen; rw [List.takeWhile_cons, if_pos hn]; rfl
   rw [hb1, ih, hl]
   by_cases h : lineLen l < l.length
   ·have e : ((lineLen l : Int) == -1) = false := by rw [beq_eq_false_iff_ne]; omega
    simp [h, e]
   ·simp [h]
theorem line_hit (l : Bs) (h : lineLen l < l.length) : Lib.indexByte l 10 = (lineLen l : Int) := by rw [index_line, if_pos h]
theorem line_miss (l : Bs) (h : ¬ lineLen l < l.length) : Lib.indexByte l 10 = -1 := by rw [index_line, if_neg h]
theorem line_all (l : Bs) (h : ¬ lineLen l < l.length) : lineLen l = l.length := by have := lineLen_le l; omega
theorem pre_comment (x : ByteArray) (h : 2 ≤ x.size) : (x.data.toList.take 2 == [47, 47]) = comment x.data.toList := by
 have hl : x.data.toList.length = x.size := by simp
 generalize x.data.toList = l at *
 match l, hl with
 | [], hl => simp at hl; omega
 | [c], hl => simp at hl; omega
 | c :: d :: r, hl =>
  have e1 : ∀ c : UInt8, c = 47 ↔ (c.toNat : Int) = 47 := fun c => by
   constructor
   ·intro e; subst e; rfl
   ·intro e; apply UInt8.toNat_inj.1; show c.toNat = 47; omega
  rw [Bool.eq_iff_iff]
  simp [comment, e1]
theorem short_comment (x : ByteArray) (h : ¬ 2 ≤ x.size) : comment x.data.toList = false := by
 have hl : x.data.toList.length = x.size := by simp
 generalize x.data.toList = l at *
 match l, hl with
 | [], hl => rfl
 | [c], hl => rfl
 | c :: d :: r, hl => simp at hl; omega
/-- what stands behind j bytes is read as the whole is -/
def GapInv (l : Bs) (j : Nat) : Prop := j ≤ l.length ∧ ∀ a T, Scan (l.drop j) (a + j) T → Scan l a T
def GapIs (l : Bs) (n : Nat) : Prop := GapInv l n ∧ (n = l.length ∨ ∃ c r, l.drop n = c :: r ∧ blankI (c.toNat : Int) = false ∧ comment (c :: r) = false)
theorem GapInv.start (l : Bs) : GapInv l 0 := ⟨Nat.zero_le _, fun a T h => by simpa using h⟩
theorem GapInv.blank {l : Bs} {j : Nat} (h : GapInv l j) (hj : j < l.length) (hb : blankI ((l[j]).toNat : Int) = true) : GapInv l (j + 1) := by
 refine ⟨hj, fun a T k => h.2 a T ?_⟩
 rw [List.drop_eq_getElem_cons hj]
 exact .blank _ _ _ _ hb (by rw [Nat.add_assoc]; exact k)
theorem GapInv.comm {l : Bs} {j : Nat} (h : GapInv l j) (hj : j < l.length) (hb : blankI ((l[j]).toNat : Int) = false) (hc : comment (l.drop j) = true) : GapInv l (j + lineLen (l.drop j)) := by
 have hle := lineLen_le (l.drop j)
 rw [List.length_drop] at hle
 refine ⟨by omega, fun a T k => h.2 a T ?_⟩
 rw [List.drop_eq_getElem_cons hj] at hc ⊢
 refine .comm _ _ _ _ hb hc ?_
 rw [← List.drop_eq_getElem_cons hj, List.drop_drop, Nat.add_assoc]
 exact k
theorem GapInv.stop {l : Bs} {j : Nat} (h : GapInv l j) (hj : j < l.length) (hb : blankI ((l[j]).toNat : Int) = false) (hc : comment (l.drop j) = false) : GapIs l j :=
 ⟨h, .inr ⟨l[j], l.drop (j + 1), List.drop_eq_getElem_cons hj, hb, by rw [← List.drop_eq_getElem_cons hj]; exact hc⟩⟩
theorem GapInv.all {l : Bs} (h : GapInv l l.length) : GapIs l l.length := ⟨h, .inl rfl⟩
theorem comm_blank {l : Bs} {j : Nat} (hj : j < l.length) (hc : comment (l.drop j) = true) : 0 < lineLen (l.drop j) := by
 rw [List.drop_eq_getElem_cons hj] at hc ⊢
 exact lineLen_pos hc
theorem markLen_cons (x : ByteArray) (k : Nat) (h : k < x.size) : markLen (x.data.toList.drop k) = if twoM ((x.data.toList.drop k).take 2) then 2 else if markI ((x[k]).toNat : Int) then 1 else 0 := by
 rw [drop_cons x k h]; rfl
theorem twoM_short {l : Bs} (h : l.length < 2) : twoM l = false := by
 unfold twoM
 rw [decide_eq_false]
 rintro (e | e | e | e) <;> · rw [e] at h; simp at h
theorem headDig_eq (x : ByteArray) (h : 0 < x.size) : headDig x.data.toList = digI ((x[0]).toNat : Int) := by
 have := drop_cons x 0 h
 simp only [List.drop_zero] at this
 rw [this]; rfl
theorem numL_no (x : ByteArray) (j : Nat) (hj : j < x.size) (h : digI ((x[j]).toNat : Int) = false) : numL x.data.toList = false := by
 unfold numL
 have : x.data.toList.all digB = false := by
  rw [List.all_eq_false]
  exact ⟨x[j], by have : x[j] = x.data.toList[j]'(by simpa using hj) := rfl
                  rw [this]; exact List.getElem_mem _, by unfold digB; rw [h]; simp⟩
 rw [this]; rfl
theorem numL_yes (x : ByteArray) (h : ∀ i (hi : i < x.size), digI ((x[i]).toNat : Int) = true) : numL x.data.toList = decide (x.size ≤ 18) := by
 unfold numL
 have : x.data.toList.all digB = true := by
  rw [List.all_eq_true]
  intro c hc
  obtain ⟨i, hi, rfl⟩ := List.getElem_of_mem hc
  exact h i (by simpa using hi)
 rw [this]; simp
theorem runLen_at (x : ByteArray) (j : Nat) (hj : j ≤ x.size) (h : ∀ i (hi : i < x.size), i < j → runI ((x[i]).toNat : Int) = true) (hs : j = x.size ∨ ∃ hj : j < x.size, runI ((x[j]).toNat : Int) = false) : runLen x.data.toList = j := by
 refine takeWhile_len (by simpa using hj) (fun i hi hij => h i (by simpa using hi) hij) ?_
 rcases hs with hs | ⟨hj', hs⟩
 ·left; simpa using hs
 ·right; exact ⟨by simpa using hj', hs⟩
theorem kind_num {l : Bs} (h : numL l = true) : kindRun l = 3 := by unfold kindRun; rw [if_pos h]
theorem kind_dig {l : Bs} (h : numL l = false) (h2 : headDig l = true) : kindRun l = 5 := by unfold kindRun; rw [h, if_neg (by simp), if_pos h2]
theorem kind_word {l : Bs} (h : numL l = false) (h2 : headDig l = false) (h3 : resL l = true) : kindRun l = 2 := by unfold kindRun; rw [h, h2, h3]; simp
theorem kind_name {l : Bs} (h : numL l = false) (h2 : headDig l = false) (h3 : resL l = false) : kindRun l = 1 := by unfold kindRun; rw [h, h2, h3]; simp
theorem tok_run {l : Bs} (h : 0 < runLen l) : tokLen l = runLen l ∧ tokKind l = kindRun (l.take (runLen l)) := by unfold tokLen tokKind; rw [if_pos h, if_pos h]; exact ⟨rfl, rfl⟩
theorem tok_mark {l : Bs} (h : runLen l = 0) (h2 : 0 < markLen l) : tokLen l = markLen l ∧ tokKind l = 4 := by simp [tokLen, tokKind, h, h2]
theorem tok_bad {l : Bs} (h : runLen l = 0) (h2 : markLen l = 0) : tokLen l = 1 ∧ tokKind l = 5 := by simp [tokLen, tokKind, h, h2]
end Lx
end Go.Proofs.YtheigpiffdabnaaGreat
namespace Go.Proofs
open Go.Shelf
def Tryz.lays137_ren : Go.Shelf.Ren := ⟨fun | 137 => 49 | 217 => 72 | 266 => 85 | n => n, fun | 9 => 9 | 5 => 5 | 3 => 3 | n => n, fun | n => n⟩
theorem Tryz.lays137 : Go.Proofs.Lays.n137 Tryz.prog Tryz.lays137_ren := {
 mixed := by kernel_rfl
 f137 := Tryz.func49.trans (congrArg some (by kernel_rfl))
 f217 := Tryz.func72.trans (congrArg some (by kernel_rfl))
 f266 := Tryz.func85.trans (congrArg some (by kernel_rfl))
 t3 := Tryz.underlying3
 a3 := Tryz.isAgg3
 z3 := Tryz.sizeOf3
 v3 := Tryz.zeroValue3
 t5 := Tryz.underlying5
 a5 := Tryz.isAgg5
 z5 := Tryz.sizeOf5
 v5 := Tryz.zeroValue5
 t9 := Tryz.underlying9
 a9 := Tryz.isAgg9
 z9 := Tryz.sizeOf9
 v9 := Tryz.zeroValue9 }
open Go.RowKit in
/-- strings.IndexByte: "IndexByte returns the index of the first instance of c in s, or -1 if c is not present in s.": IT RETURNS 'Lib.indexByte s c'; the world is as it was. (LAID: no walk: one application.) -/
theorem Tryz.strings_IndexByte (s : ByteArray) (c : Int) (w : World) :
  Calls Tryz.prog 49 #[.string s, .int .u8 c] w fun e w' => e = .returned (.int .i64 (Lib.indexByte s.data.toList c.toNat.toUInt8)) ∧ w' = w := Any.strings_IndexByte Tryz.lays137 s c w
end Go.Proofs
