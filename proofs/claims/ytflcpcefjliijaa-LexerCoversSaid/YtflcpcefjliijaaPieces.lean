/-
  CONTRACTS: the pieces of wrong programs: thirty-four short strings in a row of their own.
-/
import Derived.Test.YtflcpcefjliijaaSources
namespace Go.Proofs.Ytflcpcefjliijaa
open Go Go.RowKit
set_option linter.unusedVariables false

theorem shorts_row (N : Nat) (V : List ByteArray) (hV : ∀ s ∈ V, s.size ≤ N) (t : TypeId) (w : World) : Shorts N (w.alloc (.cells (rowS V) t)) (some ⟨w.heap.size, 0, none⟩) V.length := by
  intro i hi
  refine ⟨_, _, V[i], rfl, ?_, hV _ (List.getElem_mem hi)⟩
  rw [Lib.cell_of_heap (heap_alloc_new w _)]
  simp [rowS, hi]

def piecesL : List ByteArray := [⟨#[]⟩, ⟨#[59]⟩, ⟨#[32]⟩, ⟨#[40]⟩, ⟨#[41]⟩, ⟨#[123]⟩, ⟨#[125]⟩, ⟨#[108, 101, 116, 32, 120, 32, 61, 32, 49, 59]⟩, ⟨#[102, 110, 32, 102, 40, 97, 58, 32, 105, 110, 116, 41, 32, 45, 62, 32, 105, 110, 116, 32, 123, 32, 97, 32, 125]⟩, ⟨#[99, 111, 110, 115, 116, 32, 99, 58, 32, 105, 110, 116, 32, 61, 32, 99, 59]⟩, ⟨#[117, 115, 101, 32, 122, 59]⟩, ⟨#[116, 114, 117, 101]⟩, ⟨#[117, 110, 107, 110, 111, 119, 110]⟩, ⟨#[120]⟩, ⟨#[46, 118]⟩, ⟨#[43]⟩, ⟨#[58, 58]⟩, ⟨#[55]⟩, ⟨#[109, 97, 99, 114, 111, 32, 109, 40, 101, 41, 32, 61, 32, 109, 33, 40, 101, 41, 59]⟩, ⟨#[109, 33, 40, 49, 41]⟩, ⟨#[115, 104, 111, 119, 40, 116, 114, 117, 101, 41]⟩, ⟨#[110, 101, 119, 32, 80, 40, 49, 41]⟩, ⟨#[47, 47, 32, 110, 111, 10]⟩, ⟨#[45, 62, 32, 98, 111, 111, 108]⟩, ⟨#[116, 121, 112, 101, 32, 81, 32, 123, 32, 113, 58, 32, 81, 32, 125]⟩, ⟨#[105, 109, 112, 108, 32, 83, 104, 111, 119, 32, 102, 111, 114, 32, 98, 111, 111, 108, 32, 123, 32, 125]⟩, ⟨#[0]⟩, ⟨#[112, 117, 98, 32, 117, 115, 101, 32, 97, 59]⟩, ⟨#[102, 110, 32, 109, 97, 105, 110, 40, 41, 32, 45, 62, 32, 105, 110, 116, 32, 123, 32, 49, 32, 125]⟩, ⟨#[60]⟩, ⟨#[105, 102]⟩, ⟨#[116, 114, 97, 105, 116, 32, 65, 58, 32, 66, 32, 123, 32, 125, 10, 116, 114, 97, 105, 116, 32, 66, 58, 32, 65, 32, 123, 32, 125, 10]⟩, ⟨#[49, 48, 48, 48, 48, 48, 48, 48, 48, 48, 48, 48, 48, 48, 48, 48, 48, 48, 48, 48, 48, 48]⟩, ⟨#[112, 114, 105, 110, 116, 32, 49, 59]⟩]
theorem pieces_few : piecesL.length = 34 := rfl
theorem pieces_short : ∀ s ∈ piecesL, s.size ≤ 32 := by decide

set_option maxRecDepth 100000 in
set_option maxHeartbeats 1000000 in
/-- Pieces -/
theorem pieces_any (w : World) : Calls Try.prog 35 #[] w fun e w' => e = .returned (.slice (some ⟨w.heap.size, 0, none⟩) 34 34) ∧ w' = w.alloc (.cells (rowS piecesL) 9) := by
  go_enter Try.func35, Try.ntmps35
  go_wp2_with fail
  go_ret
  exact ⟨rfl, rfl⟩

/-- Light -/
theorem light_any (p : Option Addr) (n cap : Nat) (w : World) (hn : n ≤ 1000000) : Calls Try.prog 8 #[.slice p n cap] w fun e w' => e = .returned (.bool (decide ((n : Int) ≤ 400))) ∧ w' = w := by
  go_enter Try.func8, Try.ntmps8
  go_wp2_with fail
  go_ret
  exact ⟨rfl, rfl⟩

/-- Roll -/
theorem roll_any (p : Option Addr) (n cap : Nat) (w : World) : Calls Try.prog 10 #[.slice p n cap] w fun e w' => e = .returned (.pointer (some ⟨w.heap.size, 0, none⟩)) ∧ w' = w.alloc (.cells #[.slice p n cap, .int .i64 0] 63) := by
  go_enter Try.func10, Try.ntmps10
  go_wp2_with fail
  go_ret
  exact ⟨rfl, rfl⟩

/-- the dice as Roll leaves them -/
theorem roll_dice (w : World) (p : Option Addr) (n cap : Nat) (t : TypeId) (hn : n ≤ 400) (h : ∀ i, i < n → ∃ b o, p = some ⟨b, o, none⟩ ∧ ∃ x : Int, -9223372036854775808 ≤ x ∧ x ≤ 9223372036854775807 ∧ w.cell? ⟨b, o + i, none⟩ = some (.int .i64 x))
    (hb : ∀ b o, p = some ⟨b, o, none⟩ → b < w.heap.size) :
    DiceAt ⟨w.heap.size, p, n, cap⟩ (w.alloc (.cells #[.slice p n cap, .int .i64 0] t)) := by
  have c : ∀ i v, (#[.slice p n cap, .int .i64 0] : Array Value)[i]? = some v → (w.alloc (.cells #[.slice p n cap, .int .i64 0] t)).cell? ⟨w.heap.size, i, none⟩ = some v := fun i v hv => by rw [Lib.cell_of_heap (heap_alloc_new w _)]; exact hv
  have ea : atOf w.heap.size (w.alloc (.cells #[.slice p n cap, .int .i64 0] t)) = 0 := atOf_eq (c 1 _ rfl)
  refine ⟨?_, c 0 _ rfl, by rw [ea]; exact c 1 _ rfl, by rw [ea]; exact Nat.zero_le _, fun i hi => ?_, fun b o e => ?_, Lib.frozen_of_heap (heap_alloc_new w _) 1⟩
  · show n ≤ 400
    exact hn
  · obtain ⟨b, o, hp, x, h1, h2, hc⟩ := h i hi
    refine ⟨b, o, hp, x, h1, h2, ?_⟩
    rw [(below_box w _).cell (p := ⟨b, o + i, none⟩) (hb b o hp)]
    exact hc
  · have := hb b o e
    show b ≠ w.heap.size
    omega
end Go.Proofs.Ytflcpcefjliijaa
