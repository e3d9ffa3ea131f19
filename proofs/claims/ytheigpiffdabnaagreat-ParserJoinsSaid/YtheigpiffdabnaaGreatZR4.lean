/-
  CONTRACT: the reference's plain functions are the program's.
-/
import Derived.Test.YtheigpiffdabnaaGreatZR3
set_option linter.unusedSimpArgs false
set_option linter.unusedVariables false
namespace Go.Proofs.YtheigpiffdabnaaGreat
open Go Go.RowKit
theorem tok_in {r : Rdr} {i : Nat} (h : (r.L.getD i tok0).text.toList.isEmpty = false) : i < r.L.length := by
 by_cases hi : i < r.L.length
 ·exact hi
 ·exfalso
  have e : r.L.getD i tok0 = tok0 := by simp [List.getD, List.getElem?_eq_none (Nat.le_of_not_lt hi)]
  rw [e, ByteArray.toList_eq] at h
  cases h
theorem mark_in {r : Rdr} {i : Nat} {sg : ByteArray} (h : isMark r i sg = true) (hs : sg.size ≠ 0) : i < r.L.length := tok_in (mark_full h hs)
theorem mark_text {r : Rdr} {i : Nat} {sg : ByteArray} (h : isMark r i sg = true) : (r.L.getD i tok0).text = sg := bytes_ext (by unfold isMark at h; simpa using h)
end Go.Proofs.YtheigpiffdabnaaGreat
namespace Go.Proofs.YtheigpiffdabnaaGreat
open Go Go.RowKit
end Go.Proofs.YtheigpiffdabnaaGreat
namespace Go.Proofs.YtheigpiffdabnaaGreat
open Go Go.RowKit
end Go.Proofs.YtheigpiffdabnaaGreat
namespace Go.Proofs.YtheigpiffdabnaaGreat
open Go Go.RowKit
end Go.Proofs.YtheigpiffdabnaaGreat
namespace Go.Proofs.YtheigpiffdabnaaGreat
open Go Go.RowKit
/-- a mark of one byte is of the kind of marks -/
def EqMark (L : List Lx.Tok) : Prop := ∀ t ∈ L, t.text.toList = [61] → t.kind = 4
theorem EqMark.at_ {r : Rdr} (h : EqMark r.L) (j : Nat) (hm : isMark r j ⟨#[61]⟩ = true) : (r.L.getD j tok0).kind = 4 := by
 have hj := mark_in hm (by decide)
 refine h _ (by rw [getD_eq _ _ _ hj]; exact List.getElem_mem hj) ?_
 rw [mark_text hm, ByteArray.toList_eq]
end Go.Proofs.YtheigpiffdabnaaGreat
namespace Go.Proofs.YtheigpiffdabnaaGreat
open Go Go.RowKit
/-- from where a rule of the last level begins: only from a fault -/
def Late (lv : Int) (σ : Except Nat Nat) : Prop := ∀ j, σ = .ok j → lv ≤ 60
theorem Late.err {lv : Int} {a b : Except Nat Nat} (h : Late lv a) (he : Err a b) : Late lv b := fun j e => by
 subst e
 obtain ⟨k, hk⟩ := he.ok
 exact h k hk
section
variable {r : Rdr} {s : Bool} {lv : Int} {E Bk U : PM Tree}
end
end Go.Proofs.YtheigpiffdabnaaGreat
