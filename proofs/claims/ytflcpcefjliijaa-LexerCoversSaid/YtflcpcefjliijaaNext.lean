/-
  CONTRACTS: the throws of the dice: they end, and give a number that is asked for.
-/
import Derived.Test.YtflcpcefjliijaaBut
namespace Go.Proofs.Ytflcpcefjliijaa
open Go Go.RowKit
set_option linter.unusedVariables false

set_option maxHeartbeats 400000 in
/-- (*Dice).Next -/
theorem next_any (d : Dice) (m : Nat) (w : World) (hd : DiceAt d w) (h1 : 1 ≤ m) (h2 : m ≤ 1000000) :
    Calls Try.prog 13 #[.pointer (some ⟨d.D, 0, none⟩), .int .i64 (m : Int)] w fun e w' => ∃ k : Nat, k < m ∧ e = .returned (.int .i64 (k : Int)) ∧ Thrown d w w' ∧ (0 < k → atOf d.D w < atOf d.D w') := by
  have c0 := hd.row
  have c1 := hd.at_
  have hle := hd.le
  have hfew := hd.few
  by_cases hlt : atOf d.D w < d.n
  · obtain ⟨b, o, hp, x, hx1, hx2, hx⟩ := hd.rolls _ hlt
    have hbD := hd.away b o hp
    obtain ⟨k, hmod1, hk0, hkm⟩ := mod_any x (m : Int) (by omega) (by omega) hx1 hx2
    have hmod : ∀ w1 : World, Calls Try.prog 37 #[.int .i64 x, .int .i64 (m : Int)] w1 fun e w2 => e = .returned (.int .i64 k) ∧ w2 = w1 := fun w1 => (hmod1 w1).mono fun _ _ h => ⟨h.1, h.2.symm⟩
    clear hmod1
    obtain ⟨y, rfl⟩ : ∃ y : Nat, k = (y : Int) := ⟨k.toNat, by omega⟩
    have TH : ∀ m1 m2, Thrown d w (((w.drewN m1).setCell ⟨d.D, 1, none⟩ (.int .i64 (((atOf d.D w : Nat) : Int) + 1))).drewN m2) ∧ atOf d.D (((w.drewN m1).setCell ⟨d.D, 1, none⟩ (.int .i64 (((atOf d.D w : Nat) : Int) + 1))).drewN m2) = atOf d.D w + 1 := by
      intro m1 m2
      have h := thrown_set (thrown_drewN hd m1).good hlt m2
      exact ⟨(thrown_drewN hd m1).trans h.1, h.2⟩
    have HT := Lib.hid TH
    clear TH
    have e1 : IntKind.i64.wrap (((atOf d.D w : Nat) : Int) + 1) = ((atOf d.D w : Nat) : Int) + 1 := IntWalk.i64_in _ (by omega)
    have e2 : IntKind.i64.wrap (((atOf d.D w : Nat) : Int) + 1 - 1) = ((atOf d.D w : Nat) : Int) := by rw [IntWalk.i64_in _ (by omega)]; omega
    have e3 : IntKind.i64.wrap ((atOf d.D w : Nat) : Int) = ((atOf d.D w : Nat) : Int) := IntWalk.i64_in _ (by omega)
    have hlt' : ((atOf d.D w : Nat) : Int) < (d.n : Int) := by omega
    have hw1 := hd.warm
    have HK := Lib.hid hkm
    clear hkm
    obtain ⟨D, p, n, cap⟩ := d
    simp only at *
    subst hp
    generalize hg : atOf D w = j at *
    have HG := Lib.hid hg
    clear hg
    have ne1 : (⟨D, 1, none⟩ : Addr) ≠ ⟨b, o + j, none⟩ := by intro h; injection h with h _ _; exact hbD h.symm
    have ne2 : (⟨D, 1, none⟩ : Addr) ≠ ⟨D, 0, none⟩ := by intro h; injection h with _ h _; omega
    go_enter Try.func13, Try.ntmps13
    go_wp2_with fail
    go_quiet (fail)
    go_wp2_with fail
    go_quiet ((go_at_call 37; exact Calls.quiet_of_same (hmod _)))
    go_wp2_with fail
    go_ret
    exact ⟨y, by have := HK.out; omega, rfl, (HT.out _ _).1, fun _ => by rw [(HT.out _ _).2]; have := HG.out; omega⟩
  · have hge : ¬ ((atOf d.D w : Nat) : Int) < (d.n : Int) := by omega
    have TH := Lib.hid (fun m => thrown_drewN hd m)
    obtain ⟨D, p, n, cap⟩ := d
    simp only at *
    generalize atOf D w = k at *
    go_enter Try.func13, Try.ntmps13
    go_wp2_with fail
    go_quiet (fail)
    go_wp2_with fail
    go_ret
    exact ⟨0, by omega, rfl, TH.out _, by omega⟩

/-- (*Dice).One -/
theorem one_any (d : Dice) (m : Nat) (w : World) (hd : DiceAt d w) (h1 : 1 ≤ m) (h2 : m ≤ 1000000) :
    Calls Try.prog 63 #[.pointer (some ⟨d.D, 0, none⟩), .int .i64 (m : Int)] w fun e w' => ∃ k : Bool, e = .returned (.bool k) ∧ Thrown d w w' := by
  have e1 : IntKind.i64.wrap ((m : Int) - 1) = (m : Int) - 1 := IntWalk.i64_in _ (by omega)
  have HD := Lib.hid hd
  clear hd
  go_enter Try.func63, Try.ntmps63
  go_wp2_with (go_at_call 13; refine (next_any d m _ HD.out h1 h2).mono ?_; rintro e w1 ⟨k, hk, rfl, ht, -⟩; have HT := Lib.hid ht; clear ht)
  go_ret
  exact ⟨_, rfl, HT.out⟩

/-- strings in a row, each of at most N bytes -/
def Shorts (N : Nat) (w : World) (p : Option Addr) (m : Nat) : Prop :=
  ∀ i, i < m → ∃ b o, ∃ s : ByteArray, p = some ⟨b, o, none⟩ ∧ w.cell? ⟨b, o + i, none⟩ = some (.string s) ∧ s.size ≤ N

theorem Shorts.keep {N : Nat} {M : Addr → Prop} {w w' : World} {p : Option Addr} {n : Nat} (h : Shorts N w p n) (hb : But M w w') (hm : ∀ b o i, p = some ⟨b, o, none⟩ → ¬ M ⟨b, i, none⟩) : Shorts N w' p n := by
  intro i hi
  obtain ⟨b, o, s, hp, hc, hs⟩ := h i hi
  exact ⟨b, o, s, hp, hb.keep hc (hm b o _ hp), hs⟩
theorem Shorts.thrown {N : Nat} {d : Dice} {w w' : World} {p : Option Addr} {n : Nat} (h : Shorts N w p n) (ht : Thrown d w w') (hp : ∀ b o, p = some ⟨b, o, none⟩ → b ≠ d.D) : Shorts N w' p n :=
  h.keep ht.but (fun b o i e q => by unfold isAt at q; injection q with q1 _ _; exact hp b o e q1)

/-- (*Dice).Of -/
theorem of_any (d : Dice) (N m cap b o : Nat) (w : World) (hd : DiceAt d w) (h1 : 1 ≤ m) (h2 : m ≤ 1000000) (hs : Shorts N w (some ⟨b, o, none⟩) m) (hb : b ≠ d.D) :
    Calls Try.prog 15 #[.pointer (some ⟨d.D, 0, none⟩), .slice (some ⟨b, o, none⟩) m cap] w fun e w' => ∃ s : ByteArray, s.size ≤ N ∧ e = .returned (.string s) ∧ Thrown d w w' := by
  have HD := Lib.hid hd
  have HS := Lib.hid hs
  clear hd hs
  go_enter Try.func15, Try.ntmps15
  go_wp2_with (go_at_call 13; refine (next_any d m _ HD.out h1 h2).mono ?_; rintro e w1 ⟨k, hk, rfl, ht, -⟩; obtain ⟨b', o', s, hp, hc, hn⟩ := (HS.out.thrown ht (fun x y e => by injection e with e; injection e with e _ _; omega)) k hk; injection hp with hp; injection hp with hp1 hp2 _; subst hp1; subst hp2; have HT := Lib.hid ht; have HN := Lib.hid hn; clear ht hn)
  go_ret
  exact ⟨s, HN.out, rfl, HT.out⟩

end Go.Proofs.Ytflcpcefjliijaa
