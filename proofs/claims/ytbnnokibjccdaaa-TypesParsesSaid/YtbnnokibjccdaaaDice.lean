/-
  CONTRACTS: dice alone: Next, Of, Light, Roll; a list of ints that came in, as dice.
-/
import Derived.Test.YtbnnokibjccdaaaBut
import Derived.ChangeSlices
import Derived.OpenShut
import Derived.WalkKit
import Derived.ProofKit
import Derived.Test.YtbnnokibjccdaaaBase
namespace Go.Proofs.Ytbnnokibjccdaaa
open Go Go.RowKit Go.ChangeShapes Go.WideShapes
set_option linter.unusedVariables false
set_option maxRecDepth 1000000

set_option maxHeartbeats 400000 in
/-- (*Dice).Next -/
theorem next_any (d : Dice) (m : Nat) (w : World) (hd : DiceAt d w) (h1 : 1 ≤ m) (h2 : m ≤ 2000000) :
    Calls Try.prog 40 #[.pointer (some ⟨d.D, 0, none⟩), .int .i64 (m : Int)] w fun e w' => ∃ k : Nat, k < m ∧ e = .returned (.int .i64 (k : Int)) ∧ Thrown d w w' ∧ (0 < k → atOf d.D w < atOf d.D w') := by
  have c0 := hd.row
  have c1 := hd.at_
  have hle := hd.le
  have hfew := hd.few
  by_cases hlt : atOf d.D w < d.n
  · obtain ⟨b, o, hp, x, hx1, hx2, hx⟩ := hd.rolls _ hlt
    have hbD := hd.away b o hp
    obtain ⟨k, hmod1, hk0, hkm⟩ := mod_any x (m : Int) (by omega) (by omega) hx1 hx2
    have hmod : ∀ w1 : World, Calls Try.prog 19 #[.int .i64 x, .int .i64 (m : Int)] w1 fun e w2 => e = .returned (.int .i64 k) ∧ w2 = w1 := fun w1 => (hmod1 w1).mono fun _ _ h => ⟨h.1, h.2.symm⟩
    clear hmod1
    obtain ⟨y, rfl⟩ : ∃ y : Nat, k = (y : Int) := ⟨k.toNat, by omega⟩
    have TH : ∀ m1 m2, Thrown d w (((w.drewN m1).setCell ⟨d.D, 1, none⟩ (.int .i64 (((atOf d.D w : Nat) : Int) + 1))).drewN m2) ∧ atOf d.D (((w.drewN m1).setCell ⟨d.D, 1, none⟩ (.int .i64 (((atOf d.D w : Nat) : Int) + 1))).drewN m2) = atOf d.D w + 1 := by
      intro m1 m2
      have h := thrown_set (thrown_drewN hd m1).good hlt m2
      exact ⟨(thrown_drewN hd m1).trans h.1, h.2⟩
    have HT := Lib.hid TH
    clear TH
    have e1 : IntKind.i64.wrap (((atOf d.D w : Nat) : Int) + 1) = ((atOf d.D w : Nat) : Int) + 1 := IntWalk.i64_in _ (by omega)
    have e2 : IntKind.i64.wrap (((atOf d.D w : Nat) : Int) + 1 - 1) = ((atOf d.D w : Nat) : Int) := by rw [IntWalk.i64_in _ (by omega)]; omega
    have e3 : IntKind.i64.wrap ((atOf d.D w : Nat) : Int) = ((atOf d.D w : Nat) : Int) := IntWalk.i64_in _ (by omega)
    have hlt' : ((atOf d.D w : Nat) : Int) < (d.n : Int) := by omega
    have hw1 := hd.warm
    have HK := Lib.hid hkm
    clear hkm
    obtain ⟨D, p, n, cap⟩ := d
    simp only at *
    subst hp
    generalize hg : atOf D w = j at *
    have HG := Lib.hid hg
    clear hg
    have ne1 : (⟨D, 1, none⟩ : Addr) ≠ ⟨b, o + j, none⟩ := by intro h; injection h with h _ _; exact hbD h.symm
    have ne2 : (⟨D, 1, none⟩ : Addr) ≠ ⟨D, 0, none⟩ := by intro h; injection h with _ h _; omega
    go_enter Try.func40, Try.ntmps40
    go_wp2_with fail
    go_quiet (fail)
    go_wp2_with fail
    go_quiet ((go_at_call 19; exact Calls.quiet_of_same (hmod _)))
    go_wp2_with fail
    go_ret
    exact ⟨y, by have := HK.out; omega, rfl, (HT.out _ _).1, fun _ => by rw [(HT.out _ _).2]; have := HG.out; omega⟩
  · have hge : ¬ ((atOf d.D w : Nat) : Int) < (d.n : Int) := by omega
    have TH := Lib.hid (fun m => thrown_drewN hd m)
    obtain ⟨D, p, n, cap⟩ := d
    simp only at *
    generalize atOf D w = k at *
    go_enter Try.func40, Try.ntmps40
    go_wp2_with fail
    go_quiet (fail)
    go_wp2_with fail
    go_ret
    exact ⟨0, by omega, rfl, TH.out _, by omega⟩

/-- strings in a row, each of at most N bytes -/
def Shorts (N : Nat) (w : World) (p : Option Addr) (m : Nat) : Prop :=
  ∀ i, i < m → ∃ b o, ∃ s : ByteArray, p = some ⟨b, o, none⟩ ∧ w.cell? ⟨b, o + i, none⟩ = some (.string s) ∧ s.size ≤ N

theorem Shorts.keep {N : Nat} {M : Addr → Prop} {w w' : World} {p : Option Addr} {n : Nat} (h : Shorts N w p n) (hb : But M w w') (hm : ∀ b o i, p = some ⟨b, o, none⟩ → ¬ M ⟨b, i, none⟩) : Shorts N w' p n := by
  intro i hi
  obtain ⟨b, o, s, hp, hc, hs⟩ := h i hi
  exact ⟨b, o, s, hp, hb.keep hc (hm b o _ hp), hs⟩
theorem Shorts.thrown {N : Nat} {d : Dice} {w w' : World} {p : Option Addr} {n : Nat} (h : Shorts N w p n) (ht : Thrown d w w') (hp : ∀ b o, p = some ⟨b, o, none⟩ → b ≠ d.D) : Shorts N w' p n :=
  h.keep ht.but (fun b o i e q => by unfold isAt at q; injection q with q1 _ _; exact hp b o e q1)

/-- (*Dice).Of -/
theorem of_any (d : Dice) (N m cap b o : Nat) (w : World) (hd : DiceAt d w) (h1 : 1 ≤ m) (h2 : m ≤ 1000000) (hs : Shorts N w (some ⟨b, o, none⟩) m) (hb : b ≠ d.D) :
    Calls Try.prog 39 #[.pointer (some ⟨d.D, 0, none⟩), .slice (some ⟨b, o, none⟩) m cap] w fun e w' => ∃ s : ByteArray, s.size ≤ N ∧ e = .returned (.string s) ∧ Thrown d w w' := by
  have HD := Lib.hid hd
  have HS := Lib.hid hs
  clear hd hs
  go_enter Try.func39, Try.ntmps39
  go_wp2_with (go_at_call 40; refine (next_any d m _ HD.out h1 (by omega)).mono ?_; rintro e w1 ⟨k, hk, rfl, ht, -⟩; obtain ⟨b', o', s, hp, hc, hn⟩ := (HS.out.thrown ht (fun x y e => by injection e with e; injection e with e _ _; omega)) k hk; injection hp with hp; injection hp with hp1 hp2 _; subst hp1; subst hp2; have HT := Lib.hid ht; have HN := Lib.hid hn; clear ht hn)
  go_ret
  exact ⟨s, HN.out, rfl, HT.out⟩

/-- Roll -/
theorem roll_any (p : Option Addr) (n cap : Nat) (w : World) : Calls Try.prog 14 #[.slice p n cap] w fun e w' => e = .returned (.pointer (some ⟨w.heap.size, 0, none⟩)) ∧ w' = w.alloc (.cells #[.slice p n cap, .int .i64 0] 61) := by
  go_enter Try.func14, Try.ntmps14
  go_wp2_with fail
  go_ret
  exact ⟨rfl, rfl⟩

/-- the dice as Roll leaves them -/
theorem roll_dice (w : World) (p : Option Addr) (n cap : Nat) (t : TypeId) (hn : n ≤ 400) (h : ∀ i, i < n → ∃ b o, p = some ⟨b, o, none⟩ ∧ ∃ x : Int, -9223372036854775808 ≤ x ∧ x ≤ 9223372036854775807 ∧ w.cell? ⟨b, o + i, none⟩ = some (.int .i64 x))
    (hb : ∀ b o, p = some ⟨b, o, none⟩ → b < w.heap.size) :
    DiceAt ⟨w.heap.size, p, n, cap⟩ (w.alloc (.cells #[.slice p n cap, .int .i64 0] t)) := by
  have c : ∀ i v, (#[.slice p n cap, .int .i64 0] : Array Value)[i]? = some v → (w.alloc (.cells #[.slice p n cap, .int .i64 0] t)).cell? ⟨w.heap.size, i, none⟩ = some v := fun i v hv => by rw [Lib.cell_of_heap (heap_alloc_new w _)]; exact hv
  have ea : atOf w.heap.size (w.alloc (.cells #[.slice p n cap, .int .i64 0] t)) = 0 := atOf_eq (c 1 _ rfl)
  refine ⟨?_, c 0 _ rfl, by rw [ea]; exact c 1 _ rfl, by rw [ea]; exact Nat.zero_le _, fun i hi => ?_, fun b o e => ?_, Lib.frozen_of_heap (heap_alloc_new w _) 1⟩
  · show n ≤ 400
    exact hn
  · obtain ⟨b, o, hp, x, h1, h2, hc⟩ := h i hi
    refine ⟨b, o, hp, x, h1, h2, ?_⟩
    rw [(below_box w _).cell (p := ⟨b, o + i, none⟩) (hb b o hp)]
    exact hc
  · have := hb b o e
    show b ≠ w.heap.size
    omega

theorem lt_of_shape {w : World} {r : Nat} {x : TypeId × Nat} (h : w.shape? r = some x) : r < w.heap.size := by
  unfold World.shape? at h
  by_cases hlt : r < w.heap.size
  · exact hlt
  · rw [Array.getElem?_eq_none (by omega)] at h; simp at h

set_option maxRecDepth 100000 in
/-- a list of ints that came in: the numbers that it holds, and where -/
theorem open_rolls {H : Type} {enc : TypeId × Value → H} {W : World} {v : Value} {d : DataW H} {p : List MemPlace} {b0 : Nat} (hv : Value.okWide Try.prog W .any b0 30 v) (h : DataW.Trod enc Try.prog W 0 (fun _ => true) true 30 v d p) :
    ∃ (p' : Option Addr) (n cap : Nat), v = .slice p' n cap ∧ n ≤ maxLen ∧ Rolls W p' n ∧ (∀ b o, p' = some ⟨b, o, none⟩ → b < W.heap.size) := by
  obtain ⟨a0, len, cap, rfl⟩ := okWide_slice Try.underlying30 hv
  obtain ⟨fuel, hf⟩ := h
  have hin : ∀ b o, a0 = some ⟨b, o, none⟩ → b < W.heap.size := by
    intro b o e
    subst e
    simp only [Value.okWide, Try.underlying30, Cell.okWide, Cell.ok] at hv
    obtain ⟨_, _, _, _, r, c, hs, _⟩ := hv
    exact lt_of_shape hs
  rcases open_ints Try.underlying30 Try.underlying3 (by kernel_rfl) hf with ⟨e, _⟩ | ⟨a, l2, c2, zs, e, _, hlc, hcm, hzl, _, hc, hw⟩
  · simp only [Value.cells, List.cons.injEq, and_true] at e
    have e' : Value.slice a0 len cap = .slice none 0 0 := by simpa [Value.cells] using e
    injection e' with e1 e2 e3
    subst e1; subst e2; subst e3
    exact ⟨none, 0, 0, rfl, Nat.zero_le _, fun i hi => absurd hi (Nat.not_lt_zero _), hin⟩
  · simp only [Value.cells, List.cons.injEq, and_true] at e
    have e' : Value.slice a0 len cap = .slice (some a) l2 c2 := by simpa [Value.cells] using e
    injection e' with e1 e2 e3
    subst e1; subst e2; subst e3
    refine ⟨some a, len, cap, rfl, Nat.le_trans hlc hcm, fun i hi => ?_, hin⟩
    have hzi : i < zs.length := by rw [hzl]; split <;> omega
    have hci := hc i hzi
    have hlit : a.spot = none := by have := World.cell?_spot (hc 0 (by omega)); simpa [Addr.add] using this
    obtain ⟨b, o, s⟩ := a
    simp only at hlit
    subst hlit
    refine ⟨b, o, rfl, zs.getD i 0, ?_, ?_, ?_⟩
    · have := hw (zs.getD i 0) (by rw [List.getD_eq_getElem?_getD, List.getElem?_eq_getElem hzi]; exact List.getElem_mem hzi)
      simp [Lit.wf, IntKind.min, IntKind.max, IntKind.signed, IntKind.bits] at this
      exact this.1
    · have := hw (zs.getD i 0) (by rw [List.getD_eq_getElem?_getD, List.getElem?_eq_getElem hzi]; exact List.getElem_mem hzi)
      simp [Lit.wf, IntKind.min, IntKind.max, IntKind.signed, IntKind.bits] at this
      exact this.2
    · rw [add_lit] at hci; exact hci

theorem light_yes (p : Option Addr) (n cap : Nat) (w : World) (hn : n ≤ 400) : Calls Try.prog 13 #[.slice p n cap] w fun e w' => e = .returned (.bool true) ∧ w' = w := by
  have h : (n : Int) ≤ 400 := by omega
  go_enter Try.func13, Try.ntmps13
  go_wp2_with fail
  go_ret
  exact ⟨rfl, rfl⟩
theorem light_no (p : Option Addr) (n cap : Nat) (w : World) (hn : 400 < n) (hm : n ≤ maxLen) : Calls Try.prog 13 #[.slice p n cap] w fun e w' => e = .returned (.bool false) ∧ w' = w := by
  unfold maxLen at hm
  have h : ¬ (n : Int) ≤ 400 := by omega
  go_enter Try.func13, Try.ntmps13
  go_wp2_with fail
  go_ret
  exact ⟨rfl, rfl⟩

/-- the dice that Roll makes of a list that came in -/
theorem rolled {w : World} {p : Option Addr} {n cap : Nat} (hn : n ≤ 400) (hr : Rolls w p n) (hb : ∀ b o, p = some ⟨b, o, none⟩ → b < w.heap.size) :
    DiceAt ⟨w.heap.size, p, n, cap⟩ (w.alloc (.cells #[.slice p n cap, .int .i64 0] 61)) ∧ (∀ b o, p = some ⟨b, o, none⟩ → b < (w.alloc (.cells #[.slice p n cap, .int .i64 0] 61)).heap.size) :=
  ⟨roll_dice w p n cap _ hn hr hb, fun b o e => by have := hb b o e; have := (below_box w (.cells #[.slice p n cap, .int .i64 0] 61)).size; omega⟩
end Go.Proofs.Ytbnnokibjccdaaa
