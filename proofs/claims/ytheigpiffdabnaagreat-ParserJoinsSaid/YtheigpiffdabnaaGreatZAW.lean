/-
  CONTRACT: the sanity check of layer 3's statements.
-/
import Derived.Test.YtheigpiffdabnaaGreatZL4
import Derived.Deep.QuietTactic
import Derived.BigQuiet
set_option linter.unusedVariables false
namespace Go.Proofs.YtheigpiffdabnaaGreat
open Go Go.RowKit
def awakeText3 : ByteArray := ⟨#[99, 111, 110, 115, 116, 32, 97, 58, 32, 105, 110, 116, 32, 61, 32, 49, 32, 43, 32, 50, 59]⟩
def awakeToks3 : List Lx.Tok := [⟨2, ⟨#[99, 111, 110, 115, 116]⟩, 0⟩, ⟨1, ⟨#[97]⟩, 6⟩, ⟨4, ⟨#[58]⟩, 7⟩, ⟨2, ⟨#[105, 110, 116]⟩, 9⟩, ⟨4, ⟨#[61]⟩, 13⟩, ⟨3, ⟨#[49]⟩, 15⟩, ⟨4, ⟨#[43]⟩, 17⟩, ⟨3, ⟨#[50]⟩, 19⟩, ⟨4, ⟨#[59]⟩, 20⟩, ⟨0, ByteArray.empty, 21⟩]
theorem awake_toks3 : tokList awakeText3 = awakeToks3 := by kernel_rfl
def awakeTree3 : Tree := .mk 3 ⟨#[97]⟩ 0 [.mk 15 ⟨#[105, 110, 116]⟩ 9 [], .mk 28 ⟨#[43]⟩ 15 [.mk 20 ⟨#[49]⟩ 15 [], .mk 20 ⟨#[50]⟩ 19 []]]
theorem awake_mod3 : modV awakeToks3 (itemT (core awakeToks3)) = some ([awakeTree3], []) := by kernel_rfl
theorem awake_of3 : modOf awakeText3 = some ([awakeTree3], []) := by unfold modOf; rw [awake_toks3]; exact awake_mod3
theorem IsTs.shape {A : Nat → Prop} {w : World} {v : Value} {l : List Tree} (h : IsTs A w v l) : ∃ p cap, v = .slice p l.length cap ∧ IsTs A w (.slice p l.length cap) l := by
 obtain ⟨p, n, cap, R, rfl, h1, h2, h3, h4, h5⟩ := h
 obtain ⟨hn, _⟩ := h1.lies
 have e : n = l.length := by omega
 subst e
 exact ⟨p, cap, rfl, ⟨p, _, cap, R, rfl, h1, h2, h3, h4, h5⟩⟩
theorem SlIs.shape {α : Type} {E : Enc α} {w : World} {v : Value} {L : List α} (h : SlIs E w v L) : ∃ p cap, v = .slice p L.length cap ∧ SlIs E w (.slice p L.length cap) L ∧ L.length ≤ maxLen := by
 obtain ⟨p, cap, rfl, h1, h2, h3⟩ := h
 exact ⟨p, cap, rfl, ⟨p, cap, rfl, h1, h2, h3⟩, Nat.le_trans h1 h2⟩
set_option maxHeartbeats 1000000 in
set_option maxRecDepth 100000 in
theorem awake03_any (w : World) : Calls Tryz.prog 5 #[] w fun e w' => e = .returned (.bool true) ∧ Below w.heap.size w w' := by
 go_enter Tryz.func5, Tryz.ntmps5
 go_wp2_with fail
 refine (parserModule_any awakeText3 _ (by decide)).mono ?_
 rintro e w1 hm
 rw [awake_of3] at hm
 obtain ⟨v5, v6, rfl, ht, he, hb⟩ := hm
 obtain ⟨p5, c5, rfl, ht⟩ := ht.shape
 obtain ⟨p6, c6, rfl, -, -, -⟩ := he
 obtain ⟨b, off, q, rfl, hq, c0, c1, c2, c3⟩ := ht.at_.2 0 (by decide)
 obtain ⟨e0, e1, e2, hk⟩ := hq.parts
 obtain ⟨k0, x0, a0, r0, m0, g0⟩ := q
 dsimp only at e0 e1 e2 c0 c1 c2 c3 hk
 have hm0 : m0 = 2 := hk.at_.1
 subst hm0
 obtain ⟨b', off', q', rfl, hq', d0, d1, d2, d3⟩ := hk.at_.2 1 (by decide)
 obtain ⟨f0, f1, f2, -⟩ := hq'.parts
 obtain ⟨k1, x1, a1, r1, m1, g1⟩ := q'
 dsimp only at f0 f1 f2 d0 d1 d2 d3
 rw [show k0 = 3 from e0] at c0
 rw [show k1 = 28 from f0] at d0
 rw [show a1 = 15 from f2] at d2
 have HB := Lib.hid hb
 clear hb hk hq hq' ht e0 e1 e2 f0 f1 f2 c1 c2 d1 d3
 simp only [Nat.zero_mul, Nat.add_zero, Nat.one_mul] at c0 c3 d0 d2
 go_wp2_with fail
 go_ret
 exact ⟨rfl, HB.out⟩
end Go.Proofs.YtheigpiffdabnaaGreat
