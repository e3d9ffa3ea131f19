/-
  CONTRACTS: isNone and variable of types (layer 9).
-/
import Derived.Test.YtbnnokibjccdaaaTp
import Derived.Test.YtbnnokibjccdaaaLw
namespace Go.Proofs.Ytbnnokibjccdaaa
open Go Go.RowKit
set_option linter.unusedVariables false
set_option linter.unusedSimpArgs false

/-- isNone -/
theorem isNone_any (s : ByteArray) (p : Option Addr) (n c : Nat) (w : World) : Calls Try.prog 69 #[.agg #[.string s, .slice p n c]] w fun e w' => e = .returned (.bool (decide (s.toList = [] ∧ n = 0))) ∧ Below w.heap.size w w' := by
  obtain ⟨m0, m1⟩ : (w.alloc (.cells #[.string s, .slice p n c] 24)).cell? ⟨w.heap.size, 0, none⟩ = some (.string s) ∧ (w.alloc (.cells #[.string s, .slice p n c] 24)).cell? ⟨w.heap.size, 1, none⟩ = some (.slice p n c) :=
    ⟨by rw [Lib.cell_of_heap (heap_alloc_new w _)]; rfl, by rw [Lib.cell_of_heap (heap_alloc_new w _)]; rfl⟩
  have HB := Lib.hid (below_box w (.cells #[.string s, .slice p n c] 24))
  by_cases hs : s.toList = []
  · have hs2 : (s.toList == []) = true := by rw [hs]; rfl
    by_cases hn : n = 0
    · subst hn
      go_enter Try.func69, Try.ntmps69
      go_wp2_with fail
      go_ret
      exact ⟨ret_bool (by simp [hs]), HB.out⟩
    · have hn2 : ((n : Int) == 0) = false := by simp; omega
      go_enter Try.func69, Try.ntmps69
      go_wp2_with fail
      go_ret
      exact ⟨ret_bool (by simp [hs, hn]), HB.out⟩
  · have hs2 : (s.toList == []) = false := by simp [hs]
    go_enter Try.func69, Try.ntmps69
    go_wp2_with fail
    go_ret
    exact ⟨ret_bool (by simp [hs]), HB.out⟩

/-- the number of digits, at most 1000000 -/
def digsV : List UInt8 → Nat → Int
  | [], k => (k : Int)
  | c :: l, k => if c.toNat < 48 ∨ 57 < c.toNat then -1 else if 1000000 < k * 10 + (c.toNat - 48) then -1 else digsV l (k * 10 + (c.toNat - 48))
/-- the number of a variable's name -/
def varL : List UInt8 → Int
  | a :: c :: l => if a.toNat = 63 then (if c.toNat = 48 ∧ 0 < l.length then -1 else digsV (c :: l) 0) else -1
  | _ => -1
def varV (s : ByteArray) (n : Nat) : Int := if 0 < n then -1 else varL s.data.toList
theorem digsV_ge : ∀ (l : List UInt8) (k : Nat), -1 ≤ digsV l k
  | [], k => by unfold digsV; omega
  | c :: l, k => by
    unfold digsV
    split
    · omega
    · split
      · omega
      · exact digsV_ge l _
theorem digsV_le : ∀ (l : List UInt8) (k : Nat), k ≤ 1000000 → digsV l k ≤ 1000000
  | [], k, h => by unfold digsV; omega
  | c :: l, k, h => by
    unfold digsV
    split
    · omega
    · split
      · omega
      · exact digsV_le l _ (by omega)
end Go.Proofs.Ytbnnokibjccdaaa
