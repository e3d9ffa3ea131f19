/-
  CONTRACTS: a program that is being made: where it lies, what an expression leaves as it was, and expressions of depth 0.
-/
import Derived.Test.YtheigpiffdabnaaGreatZB1
set_option linter.unusedVariables false
namespace Go.Proofs.YtheigpiffdabnaaGreat
open Go Go.RowKit
/-- a program that is being made: its dice, its block, its lists -/
structure Made where
 d : Dice
 P : Nat
 fp : Option Addr
 fn : Nat
 fc : Nat
 cp : Option Addr
 cn : Nat
 cc : Nat
 mp : Option Addr
 mn : Nat
 mc : Nat
 records : Bool
 shows : Bool
 macro_ : Bool
 Φ : Gp
/-- a name, as it stands in the lists -/
def Made.nm (g : Made) (s : ByteArray) : Prop := s.size ≤ 8 ∧ g.Φ.N s
def varsOf (P : Nat) (w : World) : Nat := match w.cell? ⟨P, 6, none⟩ with | some (.int _ k) => k.toNat | _ => 0
theorem varsOf_eq {P : Nat} {w : World} {k : Nat} (h : w.cell? ⟨P, 6, none⟩ = some (.int .i64 (k : Int))) : varsOf P w = k := by
 unfold varsOf; rw [h]; rfl
/-- short strings in a row that lies apart from what is turned -/
def Vars (g : Made) (w : World) (p : Option Addr) (n : Nat) : Prop := Strs g.nm w p n ∧ ∀ b o, p = some ⟨b, o, none⟩ → b ≠ g.d.D ∧ b ≠ g.P
structure MadeAt (g : Made) (w : World) : Prop where
 dice : DiceAt g.d w
 apart : g.P ≠ g.d.D
 rowP : ∀ b o, g.d.p = some ⟨b, o, none⟩ → b ≠ g.P
 c0 : w.cell? ⟨g.P, 0, none⟩ = some (.pointer (some ⟨g.d.D, 0, none⟩))
 c1 : w.cell? ⟨g.P, 1, none⟩ = some (.slice g.fp g.fn g.fc)
 c2 : w.cell? ⟨g.P, 2, none⟩ = some (.slice g.cp g.cn g.cc)
 c3 : w.cell? ⟨g.P, 3, none⟩ = some (.slice g.mp g.mn g.mc)
 c4 : w.cell? ⟨g.P, 4, none⟩ = some (.bool g.records)
 c5 : w.cell? ⟨g.P, 5, none⟩ = some (.bool g.shows)
 c6 : w.cell? ⟨g.P, 6, none⟩ = some (.int .i64 (varsOf g.P w : Nat))
 c7 : w.cell? ⟨g.P, 7, none⟩ = some (.bool g.macro_)
 warm : w.frozen? ⟨g.P, 6, none⟩ = false
 fns : Vars g w g.fp g.fn
 consts : Vars g w g.cp g.cn
 macros : Vars g w g.mp g.mn
 few : g.fn ≤ 100 ∧ g.cn ≤ 100 ∧ g.mn ≤ 100
 credit : varsOf g.P w ≤ 2 * atOf g.d.D w
def isMut (g : Made) (a : Addr) : Prop := a = ⟨g.d.D, 1, none⟩ ∨ a = ⟨g.P, 6, none⟩
theorem Vars.keep {g : Made} {w w' : World} {p : Option Addr} {n : Nat} (h : Vars g w p n) (hb : But (isMut g) w w') : Vars g w' p n :=
 ⟨h.1.keep hb (fun b o i e q => by
  rcases q with q | q
  ·injection q with q1 _ _; exact (h.2 b o e).1 q1
  ·injection q with q1 _ _; exact (h.2 b o e).2 q1), h.2⟩
theorem MadeAt.keep {g : Made} {w w' : World} (h : MadeAt g w) (hb : But (isMut g) w w') {k v : Nat} (hk : w'.cell? ⟨g.d.D, 1, none⟩ = some (.int .i64 (k : Int))) (hn : k ≤ g.d.n)
  (hv : w'.cell? ⟨g.P, 6, none⟩ = some (.int .i64 (v : Int))) (hc : v ≤ 2 * k) : MadeAt g w' := by
 have nP : ∀ i, i ≠ 6 → ¬ isMut g ⟨g.P, i, none⟩ := by
  intro i hi q
  rcases q with q | q
  ·injection q with q1 _ _; exact h.apart q1
  ·injection q with _ q2 _; exact hi q2
 have nD : ¬ isMut g ⟨g.d.D, 0, none⟩ := by
  intro q
  rcases q with q | q
  ·injection q with _ q2 _; omega
  ·injection q with q1 _ _; exact h.apart q1.symm
 have nR : ∀ b o i, g.d.p = some ⟨b, o, none⟩ → ¬ isMut g ⟨b, i, none⟩ := by
  intro b o i e q
  rcases q with q | q
  ·injection q with q1 _ _; exact h.dice.away b o e q1
  ·injection q with q1 _ _; exact h.rowP b o e q1
 exact ⟨h.dice.keep hb nD nR hk hn, h.apart, h.rowP, hb.keep h.c0 (nP _ (by omega)), hb.keep h.c1 (nP _ (by omega)), hb.keep h.c2 (nP _ (by omega)), hb.keep h.c3 (nP _ (by omega)),
  hb.keep h.c4 (nP _ (by omega)), hb.keep h.c5 (nP _ (by omega)), by rw [varsOf_eq hv]; exact hv, hb.keep h.c7 (nP _ (by omega)),
  by rw [hb.frozen _ (World.block_lt_of_cell? w _ h.c6)]; exact h.warm, h.fns.keep hb, h.consts.keep hb, h.macros.keep hb, h.few, by rw [varsOf_eq hv, atOf_eq hk]; exact hc⟩
/-- what the making of an expression does: it throws dice, and counts variables, two at most for each throw -/
structure Went (g : Made) (w w' : World) : Prop where
 but : But (isMut g) w w'
 good : MadeAt g w'
 le : atOf g.d.D w ≤ atOf g.d.D w'
 credit : varsOf g.P w' + 2 * atOf g.d.D w ≤ varsOf g.P w + 2 * atOf g.d.D w'
theorem Went.refl {g : Made} {w : World} (h : MadeAt g w) : Went g w w := ⟨But.refl _ _, h, Nat.le_refl _, Nat.le_refl _⟩
theorem Went.trans {g : Made} {a b c : World} (h : Went g a b) (k : Went g b c) : Went g a c := ⟨h.but.trans k.but, k.good, Nat.le_trans h.le k.le, by have := h.credit; have := k.credit; omega⟩
theorem went_still {g : Made} {w w' : World} (h : MadeAt g w) (hb : But (fun _ => False) w w') : Went g w w' := by
 have hb' : But (isMut g) w w' := hb.mono (fun _ q => q.elim)
 have hk := hb.keep h.dice.at_ (fun q => q)
 have hv := hb.keep h.c6 (fun q => q)
 exact ⟨hb', h.keep hb' hk h.dice.le hv h.credit, by rw [atOf_eq hk]; exact Nat.le_refl _, by rw [atOf_eq hk, varsOf_eq hv]; exact Nat.le_refl _⟩
theorem went_below {g : Made} {w w' : World} (h : MadeAt g w) (hb : Below w.heap.size w w') : Went g w w' := went_still h (But.of_below hb)
theorem went_drewN {g : Made} {w : World} (h : MadeAt g w) (n : Nat) : Went g w (w.drewN n) := went_still h (But.drewN w n)
theorem went_alloc {g : Made} {w : World} (h : MadeAt g w) (o : Obj) : Went g w (w.alloc o) := went_still h (But.alloc w o)
theorem went_thrown {g : Made} {w w' : World} (h : MadeAt g w) (ht : Thrown g.d w w') : Went g w w' := by
 have hb' : But (isMut g) w w' := ht.but.mono (fun a q => Or.inl q)
 have hv : w'.cell? ⟨g.P, 6, none⟩ = some (.int .i64 (varsOf g.P w : Nat)) := ht.but.keep h.c6 (fun q => by unfold isAt at q; injection q with q1 _ _; exact h.apart q1)
 have hl := ht.le
 exact ⟨hb', h.keep hb' ht.good.at_ ht.good.le hv (by have := h.credit; omega), hl, by rw [varsOf_eq hv]; omega⟩
/-- a text of at most B bytes is made -/
def Makes (g : Made) (f : FuncId) (args : Array Value) (B : Nat) (Q : Gp → ByteArray → Prop) (w : World) : Prop :=
 Calls Tryz.prog f args w fun e w' => ∃ s : ByteArray, (s.size ≤ B ∧ Q g.Φ s) ∧ e = .returned (.string s) ∧ Went g w w'
/-- the making of expressions up to a depth -/
def MakesAt (f : FuncId) (lo dep : Int) (B : Nat) (Q : Gp → ByteArray → Prop) : Prop :=
 ∀ (g : Made) (k : Int) (p : Option Addr) (n cap : Nat) (w : World), k ≤ dep → lo ≤ k → MadeAt g w → Vars g w p n → (n : Int) + 4 * k ≤ 90 → Makes g f #[.pointer (some ⟨g.P, 0, none⟩), .int .i64 k, .slice p n cap] B Q w
/-- the same of a number as it stands in the walk -/
theorem nextI_any (d : Dice) (m : Int) (w : World) (hd : DiceAt d w) (h1 : 1 ≤ m) (h2 : m ≤ 1000000) :
  Calls Tryz.prog 12 #[.pointer (some ⟨d.D, 0, none⟩), .int .i64 m] w fun e w' => ∃ k : Nat, (k : Int) < m ∧ e = .returned (.int .i64 (k : Int)) ∧ Thrown d w w' ∧ (0 < k → atOf d.D w < atOf d.D w') := by
 obtain ⟨y, rfl⟩ := Int.eq_ofNat_of_zero_le (by omega : 0 ≤ m)
 exact (next_any d y w hd (by omega) (by omega)).mono fun e w' ⟨k, a, b⟩ => ⟨k, by omega, b⟩
set_option maxRecDepth 1000000 in
set_option maxHeartbeats 1000000 in
/-- (*Program).Int at depth 0 -/
theorem int0_few (g : Made) (k : Int) (p : Option Addr) (n cap : Nat) (w : World) (hk : k ≤ 0) (hk2 : -1 ≤ k) (hg : MadeAt g w) (hv : Vars g w p n) (hn : n ≤ 100) : Makes g 24 #[.pointer (some ⟨g.P, 0, none⟩), .int .i64 k, .slice p n cap] 8 (fun Φ => Φ.A) w := by
 have HG := Lib.hid hg
 have HV := Lib.hid hv
 have c0 := hg.c0
 clear hg hv
 unfold Makes
 by_cases h0 : n = 0
 ·subst h0
  go_enter Tryz.func24, Tryz.ntmps24
  go_wp2_with fail
  refine (nextI_any g.d 20 _ HG.out.dice (by omega) (by omega)).mono ?_
  rintro e w1 ⟨x, hx, rfl, ht, -⟩
  have H1 := Lib.hid (went_thrown HG.out ht)
  clear ht
  go_wp2_with fail
  refine (digits_any x _ (by omega)).mono ?_
  rintro e w2 ⟨s, ⟨hs, hdg⟩, rfl, hb⟩
  have H2 := Lib.hid (H1.out.trans (went_below H1.out.good hb))
  have HS : Hid (s.size ≤ 8 ∧ g.Φ.A s) := ⟨by omega, g.Φ.a_d hdg (by omega)⟩
  clear hb hs hdg
  go_wp2_with fail
  go_ret
  exact ⟨s, HS.out, rfl, H2.out⟩
 ·have hpos : (0 : Int) < (n : Int) := by omega
  go_enter Tryz.func24, Tryz.ntmps24
  go_wp2_with fail
  refine (nextI_any g.d 2 _ HG.out.dice (by omega) (by omega)).mono ?_
  rintro e w1 ⟨x, hx, rfl, ht, -⟩
  have H1 := Lib.hid (went_thrown HG.out ht)
  clear ht
  rcases (by omega : x = 0 ∨ x = 1) with rfl | rfl
  ·go_wp2_with fail
   refine (nextI_any g.d 20 _ H1.out.good.dice (by omega) (by omega)).mono ?_
   rintro e w2 ⟨y, hy, rfl, ht, -⟩
   have H2 := Lib.hid (H1.out.trans (went_thrown H1.out.good ht))
   clear ht
   go_wp2_with fail
   refine (digits_any y _ (by omega)).mono ?_
   rintro e w3 ⟨s, ⟨hs, hdg⟩, rfl, hb⟩
   have H3 := Lib.hid (H2.out.trans (went_below H2.out.good hb))
   have HS : Hid (s.size ≤ 8 ∧ g.Φ.A s) := ⟨by omega, g.Φ.a_d hdg (by omega)⟩
   clear hb hs hdg
   go_wp2_with fail
   go_ret
   exact ⟨s, HS.out, rfl, H3.out⟩
  ·go_wp2_with fail
   refine (nextI_any g.d n _ H1.out.good.dice (by omega) (by omega)).mono ?_
   rintro e w2 ⟨y, hy, rfl, ht, -⟩
   have H2 := Lib.hid (H1.out.trans (went_thrown H1.out.good ht))
   clear ht
   obtain ⟨b, o, s, hp, hc, hs⟩ := (HV.out.keep H2.out.but).1 y (by omega)
   subst hp
   have HS : Hid (s.size ≤ 8 ∧ g.Φ.A s) := ⟨hs.1, g.Φ.a_n hs.2⟩
   clear hs
   go_wp2_with fail
   go_ret
   exact ⟨s, HS.out, rfl, H2.out⟩
theorem int0_atom : MakesAt 24 (-1) 0 8 (fun Φ => Φ.A) := fun g k p n cap w hk hk2 hg hv hn => int0_few g k p n cap w hk hk2 hg hv (by omega)
theorem int0_any (l : Nat) : MakesAt 24 (-1) 0 8 (fun Φ => Φ.S l) := fun g k p n cap w hk hk2 hg hv hn => (int0_few g k p n cap w hk hk2 hg hv (by omega)).mono fun e w' ⟨s, h1, h2⟩ => ⟨s, ⟨h1.1, g.Φ.s_up (g.Φ.s_a h1.2) (Nat.zero_le _)⟩, h2⟩
end Go.Proofs.YtheigpiffdabnaaGreat
namespace Go.Proofs.YtheigpiffdabnaaGreat
open Go Go.RowKit
theorem lit_size (a : Array UInt8) : (⟨a⟩ : ByteArray).size = a.size := rfl
theorem away_new {d : Dice} {w : World} (h : DiceAt d w) : w.heap.size ≠ d.D := by have := World.block_lt_of_cell? w _ h.row; simp at this; omega
def OpP (s : ByteArray) : Prop := s.size ≤ 8 ∧ IsOp s
def XyP (s : ByteArray) : Prop := s.size ≤ 8 ∧ IsXy s
def AOP (s : ByteArray) : Prop := s.size ≤ 8 ∧ IsAO s
def TFP (s : ByteArray) : Prop := s.size ≤ 8 ∧ IsTF s
def LEP (s : ByteArray) : Prop := s.size ≤ 8 ∧ IsLE s
theorem op_1 : OpP ⟨#[43]⟩ := ⟨by decide, .inl rfl⟩
theorem op_2 : OpP ⟨#[45]⟩ := ⟨by decide, .inr (.inl rfl)⟩
theorem op_3 : OpP ⟨#[42]⟩ := ⟨by decide, .inr (.inr (.inl rfl))⟩
theorem op_4 : OpP ⟨#[47]⟩ := ⟨by decide, .inr (.inr (.inr (.inl rfl)))⟩
theorem op_5 : OpP ⟨#[37]⟩ := ⟨by decide, .inr (.inr (.inr (.inr rfl)))⟩
theorem xy_1 : XyP ⟨#[120]⟩ := ⟨by decide, .inl rfl⟩
theorem xy_2 : XyP ⟨#[121]⟩ := ⟨by decide, .inr rfl⟩
theorem ao_1 : AOP ⟨#[38, 38]⟩ := ⟨by decide, .inl rfl⟩
theorem ao_2 : AOP ⟨#[124, 124]⟩ := ⟨by decide, .inr rfl⟩
theorem tf_1 : TFP ⟨#[116, 114, 117, 101]⟩ := ⟨by decide, .inl rfl⟩
theorem tf_2 : TFP ⟨#[102, 97, 108, 115, 101]⟩ := ⟨by decide, .inr rfl⟩
theorem le_1 : LEP ⟨#[60]⟩ := ⟨by decide, .inl rfl⟩
theorem le_2 : LEP ⟨#[61, 61]⟩ := ⟨by decide, .inr rfl⟩
theorem strs_two {φ : ByteArray → Prop} {a b : ByteArray} (ha : φ a) (hb : φ b) (t : TypeId) (w : World) : Strs φ (w.alloc (.cells #[.string a, .string b] t)) (some ⟨w.heap.size, 0, none⟩) 2 := by
 intro i hi
 rcases (by omega : i = 0 ∨ i = 1) with rfl | rfl
 ·exact ⟨_, 0, a, rfl, by simp, ha⟩
 ·exact ⟨_, 0, b, rfl, by simp, hb⟩
theorem strs_three {φ : ByteArray → Prop} {a b c : ByteArray} (ha : φ a) (hb : φ b) (hc : φ c) (t : TypeId) (w : World) : Strs φ (w.alloc (.cells #[.string a, .string b, .string c] t)) (some ⟨w.heap.size, 0, none⟩) 3 := by
 intro i hi
 rcases (by omega : i = 0 ∨ i = 1 ∨ i = 2) with rfl | rfl | rfl
 ·exact ⟨_, 0, a, rfl, by simp, ha⟩
 ·exact ⟨_, 0, b, rfl, by simp, hb⟩
 ·exact ⟨_, 0, c, rfl, by simp, hc⟩
theorem strs_four {φ : ByteArray → Prop} {a b c d : ByteArray} (ha : φ a) (hb : φ b) (hc : φ c) (hd : φ d) (t : TypeId) (w : World) : Strs φ (w.alloc (.cells #[.string a, .string b, .string c, .string d] t)) (some ⟨w.heap.size, 0, none⟩) 4 := by
 intro i hi
 rcases (by omega : i = 0 ∨ i = 1 ∨ i = 2 ∨ i = 3) with rfl | rfl | rfl | rfl
 ·exact ⟨_, 0, a, rfl, by simp, ha⟩
 ·exact ⟨_, 0, b, rfl, by simp, hb⟩
 ·exact ⟨_, 0, c, rfl, by simp, hc⟩
 ·exact ⟨_, 0, d, rfl, by simp, hd⟩
set_option maxRecDepth 1000000 in
set_option maxHeartbeats 1000000 in
theorem shown_step (l : Nat) (dep : Int) (hd : dep ≤ 100) (BI BS R : Nat) (b1 : BI ≤ 10000) (b2 : BS ≤ 10000) (hI : MakesAt 24 (-1) (dep - 1) BI (fun Φ => Φ.S l)) (hS : 0 < dep → MakesAt 33 0 (dep - 1) BS (fun Φ => Φ.S l)) (r1 : 18 ≤ R) (r2 : BS + 9 ≤ R) (r3 : BI ≤ R) : MakesAt 33 0 dep R (fun Φ => Φ.S (l + 3)) := by
 intro g k p n cap w hk hk2 hg hv hn
 have H0 := Lib.hid (Went.refl hg)
 have HV := Lib.hid hv
 have c0 := hg.c0
 have c4 := hg.c4
 clear hg hv
 unfold Makes
 have e1 : IntKind.i64.wrap (k - 1) = k - 1 := IntWalk.i64_in _ (by omega)
 obtain hr | hr : g.records = true ∨ g.records = false := by cases g.records <;> simp
 ·rw [hr] at c4
  by_cases hp : 0 < k
  ·have hS := hS (by omega)
   go_enter Tryz.func33, Tryz.ntmps33
   go_wp2_with fail
   refine (nextI_any g.d 4 _ H0.out.good.dice (by omega) (by omega)).mono ?_
   rintro e w1 ⟨x, hx, rfl, ht, -⟩
   have H1 := Lib.hid (H0.out.trans (went_thrown H0.out.good ht))
   clear ht
   rcases (by omega : x = 0 ∨ x = 1 ∨ x = 2 ∨ x = 3) with rfl | rfl | rfl | rfl
   ·have _ := hk
    go_wp2_with fail
    refine (int0_any l g 0 p n cap _ (by omega) (by omega) H1.out.good (HV.out.keep H1.out.but) (by omega)).mono ?_
    rintro e w2 ⟨s, ⟨zs, qs⟩, rfl, ht⟩
    have H2 := Lib.hid (H1.out.trans ht)
    have Qs := Lib.hid qs
    clear ht qs
    go_wp2_with fail
    go_ret
    exact ⟨_, ⟨by first | omega | (simp [ByteArray.size_append, lit_size]; omega), g.Φ.s_up (g.Φ.s_p1 Qs.out) (by omega)⟩, rfl, H2.out⟩
   ·have _ := hk
    go_wp2_with fail
    refine (hS g (k - 1) p n cap _ (by omega) (by omega) H1.out.good (HV.out.keep H1.out.but) (by omega)).mono ?_
    rintro e w2 ⟨s, ⟨zs, qs⟩, rfl, ht⟩
    have H2 := Lib.hid (H1.out.trans ht)
    have Qs := Lib.hid qs
    clear ht qs
    go_wp2_with fail
    go_ret
    exact ⟨_, ⟨by first | omega | (simp [ByteArray.size_append, lit_size]; omega), g.Φ.s_up (g.Φ.s_b1 Qs.out) (by omega)⟩, rfl, H2.out⟩
   ·have _ := hk
    go_wp2_with fail
    refine (hI g (k - 1) p n cap _ (by omega) (by omega) H1.out.good (HV.out.keep H1.out.but) (by omega)).mono ?_
    rintro e w2 ⟨s, ⟨zs, qs⟩, rfl, ht⟩
    have H2 := Lib.hid (H1.out.trans ht)
    have Qs := Lib.hid qs
    clear ht qs
    go_wp2_with fail
    go_ret
    exact ⟨_, ⟨by first | omega | (simp [ByteArray.size_append, lit_size]; omega), g.Φ.s_up (Qs.out) (by omega)⟩, rfl, H2.out⟩
   ·have _ := hk
    go_wp2_with fail
    refine (hI g (k - 1) p n cap _ (by omega) (by omega) H1.out.good (HV.out.keep H1.out.but) (by omega)).mono ?_
    rintro e w2 ⟨s, ⟨zs, qs⟩, rfl, ht⟩
    have H2 := Lib.hid (H1.out.trans ht)
    have Qs := Lib.hid qs
    clear ht qs
    go_wp2_with fail
    go_ret
    exact ⟨_, ⟨by first | omega | (simp [ByteArray.size_append, lit_size]; omega), g.Φ.s_up (Qs.out) (by omega)⟩, rfl, H2.out⟩
  ·have _ := hk
   go_enter Tryz.func33, Tryz.ntmps33
   go_wp2_with fail
   refine (hI g (k - 1) p n cap _ (by omega) (by omega) H0.out.good (HV.out.keep H0.out.but) (by omega)).mono ?_
   rintro e w1 ⟨s, ⟨zs, qs⟩, rfl, ht⟩
   have H1 := Lib.hid (H0.out.trans ht)
   have Qs := Lib.hid qs
   clear ht qs
   go_wp2_with fail
   go_ret
   exact ⟨_, ⟨by first | omega | (simp [ByteArray.size_append, lit_size]; omega), g.Φ.s_up (Qs.out) (by omega)⟩, rfl, H1.out⟩
 ·rw [hr] at c4
  go_enter Tryz.func33, Tryz.ntmps33
  go_wp2_with fail
  refine (hI g (k - 1) p n cap _ (by omega) (by omega) H0.out.good (HV.out.keep H0.out.but) (by omega)).mono ?_
  rintro e w1 ⟨s, ⟨zs, qs⟩, rfl, ht⟩
  have H1 := Lib.hid (H0.out.trans ht)
  have Qs := Lib.hid qs
  clear ht qs
  go_wp2_with fail
  go_ret
  exact ⟨_, ⟨by first | omega | (simp [ByteArray.size_append, lit_size]; omega), g.Φ.s_up (Qs.out) (by omega)⟩, rfl, H1.out⟩
set_option maxRecDepth 1000000 in
set_option maxHeartbeats 1000000 in
theorem bool_step (l : Nat) (dep : Int) (hd : dep ≤ 100) (BI BB R : Nat) (b1 : BI ≤ 10000) (b2 : BB ≤ 10000) (hI : MakesAt 24 (-1) (dep - 1) BI (fun Φ => Φ.S l)) (hB : 0 < dep → MakesAt 32 0 (dep - 1) BB (fun Φ => Φ.E l)) (r1 : 15 ≤ R) (r2 : BB + 16 ≤ R) (r3 : BI + 18 ≤ R) : MakesAt 32 0 dep R (fun Φ => Φ.E (l + 3)) := by
 intro g k p n cap w hk hk2 hg hv hn
 have H0 := Lib.hid (Went.refl hg)
 have HV := Lib.hid hv
 have c0 := hg.c0
 have c4 := hg.c4
 clear hg hv
 unfold Makes
 have e1 : IntKind.i64.wrap (k - 1) = k - 1 := IntWalk.i64_in _ (by omega)
 by_cases hp : 0 < k
 ·have hB := hB (by omega)
  go_enter Tryz.func32, Tryz.ntmps32
  go_wp2_with fail
  refine (nextI_any g.d 5 _ H0.out.good.dice (by omega) (by omega)).mono ?_
  rintro e w1 ⟨x, hx, rfl, ht, -⟩
  have H1 := Lib.hid (H0.out.trans (went_thrown H0.out.good ht))
  clear ht
  rcases (by omega : x = 0 ∨ x = 1 ∨ x = 2 ∨ x = 3 ∨ x = 4) with rfl | rfl | rfl | rfl | rfl
  ·have _ := hk
   go_wp2_with fail
   refine (int0_atom g 0 p n cap _ (by omega) (by omega) H1.out.good (HV.out.keep H1.out.but) (by omega)).mono ?_
   rintro e w2 ⟨s, ⟨zs, qs⟩, rfl, ht⟩
   have H2 := Lib.hid (H1.out.trans ht)
   have Qs := Lib.hid qs
   clear ht qs
   go_wp2_with fail
   go_ret
   exact ⟨_, ⟨by first | omega | (simp [ByteArray.size_append, lit_size]; omega), g.Φ.e_up (g.Φ.e_not Qs.out) (by omega)⟩, rfl, H2.out⟩
  ·have _ := hk
   go_wp2_with fail
   refine (hB g (k - 1) p n cap _ (by omega) (by omega) H1.out.good (HV.out.keep H1.out.but) (by omega)).mono ?_
   rintro e w2 ⟨s, ⟨zs, qs⟩, rfl, ht⟩
   have H2 := Lib.hid (H1.out.trans ht)
   have Qs := Lib.hid qs
   clear ht qs
   go_wp2_with fail
   refine (ofS_any AOP g.d 2 _ _ _ _ (went_alloc H2.out.good _).good.dice (by omega) (by omega) (strs_two ao_1 ao_2 _ _) (away_new H2.out.good.dice)).mono ?_
   rintro e w3 ⟨t, ⟨zt, qt⟩, rfl, ht⟩
   have Qt := Lib.hid qt
   clear qt
   have H3 := Lib.hid ((H2.out.trans (went_alloc H2.out.good _)).trans (went_thrown (went_alloc H2.out.good _).good ht))
   clear ht
   go_wp2_with fail
   go_ret
   exact ⟨_, ⟨by first | omega | (simp [ByteArray.size_append, lit_size]; omega), g.Φ.e_up (g.Φ.e_ao Qs.out Qt.out) (by omega)⟩, rfl, H3.out⟩
  ·have _ := hk
   go_wp2_with fail
   refine (ofS_any TFP g.d 2 _ _ _ _ (went_alloc H1.out.good _).good.dice (by omega) (by omega) (strs_two tf_1 tf_2 _ _) (away_new H1.out.good.dice)).mono ?_
   rintro e w2 ⟨t, ⟨zt, qt⟩, rfl, ht⟩
   have Qt := Lib.hid qt
   clear qt
   have H2 := Lib.hid ((H1.out.trans (went_alloc H1.out.good _)).trans (went_thrown (went_alloc H1.out.good _).good ht))
   clear ht
   go_wp2_with fail
   go_ret
   exact ⟨_, ⟨by first | omega | (simp [ByteArray.size_append, lit_size]; omega), g.Φ.e_up (g.Φ.e_tf Qt.out) (by omega)⟩, rfl, H2.out⟩
  ·have _ := hk
   go_wp2_with fail
   refine (hI g (k - 1) p n cap _ (by omega) (by omega) H1.out.good (HV.out.keep H1.out.but) (by omega)).mono ?_
   rintro e w2 ⟨s, ⟨zs, qs⟩, rfl, ht⟩
   have H2 := Lib.hid (H1.out.trans ht)
   have Qs := Lib.hid qs
   clear ht qs
   go_wp2_with fail
   refine (ofS_any LEP g.d 2 _ _ _ _ (went_alloc H2.out.good _).good.dice (by omega) (by omega) (strs_two le_1 le_2 _ _) (away_new H2.out.good.dice)).mono ?_
   rintro e w3 ⟨t, ⟨zt, qt⟩, rfl, ht⟩
   have Qt := Lib.hid qt
   clear qt
   have H3 := Lib.hid ((H2.out.trans (went_alloc H2.out.good _)).trans (went_thrown (went_alloc H2.out.good _).good ht))
   clear ht
   go_wp2_with fail
   refine (int0_any l g 0 p n cap _ (by omega) (by omega) H3.out.good (HV.out.keep H3.out.but) (by omega)).mono ?_
   rintro e w4 ⟨u, ⟨zu, qu⟩, rfl, ht⟩
   have H4 := Lib.hid (H3.out.trans ht)
   have Qu := Lib.hid qu
   clear ht qu
   go_wp2_with fail
   go_ret
   exact ⟨_, ⟨by first | omega | (simp [ByteArray.size_append, lit_size]; omega), g.Φ.e_up (g.Φ.e_le Qs.out Qt.out Qu.out) (by omega)⟩, rfl, H4.out⟩
  ·have _ := hk
   go_wp2_with fail
   refine (hI g (k - 1) p n cap _ (by omega) (by omega) H1.out.good (HV.out.keep H1.out.but) (by omega)).mono ?_
   rintro e w2 ⟨s, ⟨zs, qs⟩, rfl, ht⟩
   have H2 := Lib.hid (H1.out.trans ht)
   have Qs := Lib.hid qs
   clear ht qs
   go_wp2_with fail
   refine (ofS_any LEP g.d 2 _ _ _ _ (went_alloc H2.out.good _).good.dice (by omega) (by omega) (strs_two le_1 le_2 _ _) (away_new H2.out.good.dice)).mono ?_
   rintro e w3 ⟨t, ⟨zt, qt⟩, rfl, ht⟩
   have Qt := Lib.hid qt
   clear qt
   have H3 := Lib.hid ((H2.out.trans (went_alloc H2.out.good _)).trans (went_thrown (went_alloc H2.out.good _).good ht))
   clear ht
   go_wp2_with fail
   refine (int0_any l g 0 p n cap _ (by omega) (by omega) H3.out.good (HV.out.keep H3.out.but) (by omega)).mono ?_
   rintro e w4 ⟨u, ⟨zu, qu⟩, rfl, ht⟩
   have H4 := Lib.hid (H3.out.trans ht)
   have Qu := Lib.hid qu
   clear ht qu
   go_wp2_with fail
   go_ret
   exact ⟨_, ⟨by first | omega | (simp [ByteArray.size_append, lit_size]; omega), g.Φ.e_up (g.Φ.e_le Qs.out Qt.out Qu.out) (by omega)⟩, rfl, H4.out⟩
 ·have _ := hk
  go_enter Tryz.func32, Tryz.ntmps32
  go_wp2_with fail
  refine (nextI_any g.d 5 _ H0.out.good.dice (by omega) (by omega)).mono ?_
  rintro e w1 ⟨x, hx, rfl, ht, -⟩
  have H1 := Lib.hid (H0.out.trans (went_thrown H0.out.good ht))
  clear ht
  rcases (by omega : x = 0 ∨ x = 1 ∨ x = 2 ∨ x = 3 ∨ x = 4) with rfl | rfl | rfl | rfl | rfl
  ·have _ := hk
   go_wp2_with fail
   refine (int0_atom g 0 p n cap _ (by omega) (by omega) H1.out.good (HV.out.keep H1.out.but) (by omega)).mono ?_
   rintro e w2 ⟨s, ⟨zs, qs⟩, rfl, ht⟩
   have H2 := Lib.hid (H1.out.trans ht)
   have Qs := Lib.hid qs
   clear ht qs
   go_wp2_with fail
   go_ret
   exact ⟨_, ⟨by first | omega | (simp [ByteArray.size_append, lit_size]; omega), g.Φ.e_up (g.Φ.e_not Qs.out) (by omega)⟩, rfl, H2.out⟩
  ·have _ := hk
   go_wp2_with fail
   refine (hI g (k - 1) p n cap _ (by omega) (by omega) H1.out.good (HV.out.keep H1.out.but) (by omega)).mono ?_
   rintro e w2 ⟨s, ⟨zs, qs⟩, rfl, ht⟩
   have H2 := Lib.hid (H1.out.trans ht)
   have Qs := Lib.hid qs
   clear ht qs
   go_wp2_with fail
   refine (ofS_any LEP g.d 2 _ _ _ _ (went_alloc H2.out.good _).good.dice (by omega) (by omega) (strs_two le_1 le_2 _ _) (away_new H2.out.good.dice)).mono ?_
   rintro e w3 ⟨t, ⟨zt, qt⟩, rfl, ht⟩
   have Qt := Lib.hid qt
   clear qt
   have H3 := Lib.hid ((H2.out.trans (went_alloc H2.out.good _)).trans (went_thrown (went_alloc H2.out.good _).good ht))
   clear ht
   go_wp2_with fail
   refine (int0_any l g 0 p n cap _ (by omega) (by omega) H3.out.good (HV.out.keep H3.out.but) (by omega)).mono ?_
   rintro e w4 ⟨u, ⟨zu, qu⟩, rfl, ht⟩
   have H4 := Lib.hid (H3.out.trans ht)
   have Qu := Lib.hid qu
   clear ht qu
   go_wp2_with fail
   go_ret
   exact ⟨_, ⟨by first | omega | (simp [ByteArray.size_append, lit_size]; omega), g.Φ.e_up (g.Φ.e_le Qs.out Qt.out Qu.out) (by omega)⟩, rfl, H4.out⟩
  ·have _ := hk
   go_wp2_with fail
   refine (ofS_any TFP g.d 2 _ _ _ _ (went_alloc H1.out.good _).good.dice (by omega) (by omega) (strs_two tf_1 tf_2 _ _) (away_new H1.out.good.dice)).mono ?_
   rintro e w2 ⟨t, ⟨zt, qt⟩, rfl, ht⟩
   have Qt := Lib.hid qt
   clear qt
   have H2 := Lib.hid ((H1.out.trans (went_alloc H1.out.good _)).trans (went_thrown (went_alloc H1.out.good _).good ht))
   clear ht
   go_wp2_with fail
   go_ret
   exact ⟨_, ⟨by first | omega | (simp [ByteArray.size_append, lit_size]; omega), g.Φ.e_up (g.Φ.e_tf Qt.out) (by omega)⟩, rfl, H2.out⟩
  ·have _ := hk
   go_wp2_with fail
   refine (hI g (k - 1) p n cap _ (by omega) (by omega) H1.out.good (HV.out.keep H1.out.but) (by omega)).mono ?_
   rintro e w2 ⟨s, ⟨zs, qs⟩, rfl, ht⟩
   have H2 := Lib.hid (H1.out.trans ht)
   have Qs := Lib.hid qs
   clear ht qs
   go_wp2_with fail
   refine (ofS_any LEP g.d 2 _ _ _ _ (went_alloc H2.out.good _).good.dice (by omega) (by omega) (strs_two le_1 le_2 _ _) (away_new H2.out.good.dice)).mono ?_
   rintro e w3 ⟨t, ⟨zt, qt⟩, rfl, ht⟩
   have Qt := Lib.hid qt
   clear qt
   have H3 := Lib.hid ((H2.out.trans (went_alloc H2.out.good _)).trans (went_thrown (went_alloc H2.out.good _).good ht))
   clear ht
   go_wp2_with fail
   refine (int0_any l g 0 p n cap _ (by omega) (by omega) H3.out.good (HV.out.keep H3.out.but) (by omega)).mono ?_
   rintro e w4 ⟨u, ⟨zu, qu⟩, rfl, ht⟩
   have H4 := Lib.hid (H3.out.trans ht)
   have Qu := Lib.hid qu
   clear ht qu
   go_wp2_with fail
   go_ret
   exact ⟨_, ⟨by first | omega | (simp [ByteArray.size_append, lit_size]; omega), g.Φ.e_up (g.Φ.e_le Qs.out Qt.out Qu.out) (by omega)⟩, rfl, H4.out⟩
  ·have _ := hk
   go_wp2_with fail
   refine (hI g (k - 1) p n cap _ (by omega) (by omega) H1.out.good (HV.out.keep H1.out.but) (by omega)).mono ?_
   rintro e w2 ⟨s, ⟨zs, qs⟩, rfl, ht⟩
   have H2 := Lib.hid (H1.out.trans ht)
   have Qs := Lib.hid qs
   clear ht qs
   go_wp2_with fail
   refine (ofS_any LEP g.d 2 _ _ _ _ (went_alloc H2.out.good _).good.dice (by omega) (by omega) (strs_two le_1 le_2 _ _) (away_new H2.out.good.dice)).mono ?_
   rintro e w3 ⟨t, ⟨zt, qt⟩, rfl, ht⟩
   have Qt := Lib.hid qt
   clear qt
   have H3 := Lib.hid ((H2.out.trans (went_alloc H2.out.good _)).trans (went_thrown (went_alloc H2.out.good _).good ht))
   clear ht
   go_wp2_with fail
   refine (int0_any l g 0 p n cap _ (by omega) (by omega) H3.out.good (HV.out.keep H3.out.but) (by omega)).mono ?_
   rintro e w4 ⟨u, ⟨zu, qu⟩, rfl, ht⟩
   have H4 := Lib.hid (H3.out.trans ht)
   have Qu := Lib.hid qu
   clear ht qu
   go_wp2_with fail
   go_ret
   exact ⟨_, ⟨by first | omega | (simp [ByteArray.size_append, lit_size]; omega), g.Φ.e_up (g.Φ.e_le Qs.out Qt.out Qu.out) (by omega)⟩, rfl, H4.out⟩
end Go.Proofs.YtheigpiffdabnaaGreat
