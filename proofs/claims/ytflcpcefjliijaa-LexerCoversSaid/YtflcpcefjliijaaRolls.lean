/-
  LAWS: a list of ints that came in, as dice.
-/
import Derived.Test.YtflcpcefjliijaaText
import Derived.ChangeSlices
import Derived.OpenShut
import Derived.WalkKit
import Derived.ProofKit
namespace Go.Proofs.Ytflcpcefjliijaa
open Go Go.RowKit Go.ChangeShapes Go.WideShapes
set_option linter.unusedVariables false

theorem lt_of_shape {w : World} {r : Nat} {x : TypeId × Nat} (h : w.shape? r = some x) : r < w.heap.size := by
  unfold World.shape? at h
  by_cases hlt : r < w.heap.size
  · exact hlt
  · rw [Array.getElem?_eq_none (by omega)] at h; simp at h

/-- a list of ints that came in: the numbers that it holds, and where -/
theorem open_rolls {H : Type} {enc : TypeId × Value → H} {W : World} {v : Value} {d : DataW H} {p : List MemPlace} {b0 : Nat} (hv : Value.okWide Try.prog W .any b0 22 v) (h : DataW.Trod enc Try.prog W 0 (fun _ => true) true 22 v d p) :
    ∃ (p' : Option Addr) (n cap : Nat), v = .slice p' n cap ∧ n ≤ maxLen ∧ Rolls W p' n ∧ (∀ b o, p' = some ⟨b, o, none⟩ → b < W.heap.size) := by
  obtain ⟨a0, len, cap, rfl⟩ := okWide_slice Try.underlying22 hv
  obtain ⟨fuel, hf⟩ := h
  have hin : ∀ b o, a0 = some ⟨b, o, none⟩ → b < W.heap.size := by
    intro b o e
    subst e
    simp only [Value.okWide, Try.underlying22, Cell.okWide, Cell.ok] at hv
    obtain ⟨_, _, _, _, r, c, hs, _⟩ := hv
    exact lt_of_shape hs
  rcases open_ints Try.underlying22 Try.underlying3 (by kernel_rfl) hf with ⟨e, _⟩ | ⟨a, l2, c2, zs, e, _, hlc, hcm, hzl, _, hc, hw⟩
  · simp only [Value.cells, List.cons.injEq, and_true] at e
    have e' : Value.slice a0 len cap = .slice none 0 0 := by simpa [Value.cells] using e
    injection e' with e1 e2 e3
    subst e1; subst e2; subst e3
    exact ⟨none, 0, 0, rfl, Nat.zero_le _, fun i hi => absurd hi (Nat.not_lt_zero _), hin⟩
  · simp only [Value.cells, List.cons.injEq, and_true] at e
    have e' : Value.slice a0 len cap = .slice (some a) l2 c2 := by simpa [Value.cells] using e
    injection e' with e1 e2 e3
    subst e1; subst e2; subst e3
    refine ⟨some a, len, cap, rfl, Nat.le_trans hlc hcm, fun i hi => ?_, hin⟩
    have hzi : i < zs.length := by rw [hzl]; split <;> omega
    have hci := hc i hzi
    have hlit : a.spot = none := by have := World.cell?_spot (hc 0 (by omega)); simpa [Addr.add] using this
    obtain ⟨b, o, s⟩ := a
    simp only at hlit
    subst hlit
    refine ⟨b, o, rfl, zs.getD i 0, ?_, ?_, ?_⟩
    · have := hw (zs.getD i 0) (by rw [List.getD_eq_getElem?_getD, List.getElem?_eq_getElem hzi]; exact List.getElem_mem hzi)
      simp [Lit.wf, IntKind.min, IntKind.max, IntKind.signed, IntKind.bits] at this
      exact this.1
    · have := hw (zs.getD i 0) (by rw [List.getD_eq_getElem?_getD, List.getElem?_eq_getElem hzi]; exact List.getElem_mem hzi)
      simp [Lit.wf, IntKind.min, IntKind.max, IntKind.signed, IntKind.bits] at this
      exact this.2
    · rw [add_lit] at hci; exact hci

theorem light_yes (p : Option Addr) (n cap : Nat) (w : World) (hn : n ≤ 400) : Calls Try.prog 8 #[.slice p n cap] w fun e w' => e = .returned (.bool true) ∧ w' = w := by
  have h : (n : Int) ≤ 400 := by omega
  go_enter Try.func8, Try.ntmps8
  go_wp2_with fail
  go_ret
  exact ⟨rfl, rfl⟩
theorem light_no (p : Option Addr) (n cap : Nat) (w : World) (hn : 400 < n) (hm : n ≤ maxLen) : Calls Try.prog 8 #[.slice p n cap] w fun e w' => e = .returned (.bool false) ∧ w' = w := by
  unfold maxLen at hm
  have h : ¬ (n : Int) ≤ 400 := by omega
  go_enter Try.func8, Try.ntmps8
  go_wp2_with fail
  go_ret
  exact ⟨rfl, rfl⟩

theorem Fd.base {d : Dice} {a b : World} (h : Fd d a b) (B : Nat) (h1 : B ≤ d.D) (h2 : d.D ≤ a.heap.size) : Below B a b :=
  ⟨h.fr.os, h.fr.tape, h.fr.output, h.fr.size, fun k hk => h.fr.block k (by omega) (by omega) (by omega)⟩
/-- the dice that Roll makes of a list that came in -/
theorem rolled {w : World} {p : Option Addr} {n cap : Nat} (hn : n ≤ 400) (hr : Rolls w p n) (hb : ∀ b o, p = some ⟨b, o, none⟩ → b < w.heap.size) :
    DiceAt ⟨w.heap.size, p, n, cap⟩ (w.alloc (.cells #[.slice p n cap, .int .i64 0] 63)) ∧ (∀ b o, p = some ⟨b, o, none⟩ → b < (w.alloc (.cells #[.slice p n cap, .int .i64 0] 63)).heap.size) :=
  ⟨roll_dice w p n cap _ hn hr hb, fun b o e => by have := hb b o e; have := (below_box w (.cells #[.slice p n cap, .int .i64 0] 63)).size; omega⟩
end Go.Proofs.Ytflcpcefjliijaa
