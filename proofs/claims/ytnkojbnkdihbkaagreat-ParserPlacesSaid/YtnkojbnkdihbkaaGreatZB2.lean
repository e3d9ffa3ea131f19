/-
  CONTRACTS: a program that is being made: where it lies, what an expression leaves as it was, and expressions of depth 0.
-/
import Derived.Test.YtnkojbnkdihbkaaGreatZB1
namespace Go.Proofs.YtnkojbnkdihbkaaGreat
open Go Go.RowKit
set_option linter.unusedVariables false

/-- a program that is being made: its dice, its block, its lists -/
structure Made where
  d : Dice
  P : Nat
  fp : Option Addr
  fn : Nat
  fc : Nat
  cp : Option Addr
  cn : Nat
  cc : Nat
  mp : Option Addr
  mn : Nat
  mc : Nat
  records : Bool
  shows : Bool
  macro_ : Bool

def varsOf (P : Nat) (w : World) : Nat := match w.cell? ⟨P, 6, none⟩ with | some (.int _ k) => k.toNat | _ => 0
theorem varsOf_eq {P : Nat} {w : World} {k : Nat} (h : w.cell? ⟨P, 6, none⟩ = some (.int .i64 (k : Int))) : varsOf P w = k := by
  unfold varsOf; rw [h]; rfl

/-- short strings in a row that lies apart from what is turned -/
def Vars (g : Made) (w : World) (p : Option Addr) (n : Nat) : Prop := Shorts 8 w p n ∧ ∀ b o, p = some ⟨b, o, none⟩ → b ≠ g.d.D ∧ b ≠ g.P

structure MadeAt (g : Made) (w : World) : Prop where
  dice : DiceAt g.d w
  apart : g.P ≠ g.d.D
  rowP : ∀ b o, g.d.p = some ⟨b, o, none⟩ → b ≠ g.P
  c0 : w.cell? ⟨g.P, 0, none⟩ = some (.pointer (some ⟨g.d.D, 0, none⟩))
  c1 : w.cell? ⟨g.P, 1, none⟩ = some (.slice g.fp g.fn g.fc)
  c2 : w.cell? ⟨g.P, 2, none⟩ = some (.slice g.cp g.cn g.cc)
  c3 : w.cell? ⟨g.P, 3, none⟩ = some (.slice g.mp g.mn g.mc)
  c4 : w.cell? ⟨g.P, 4, none⟩ = some (.bool g.records)
  c5 : w.cell? ⟨g.P, 5, none⟩ = some (.bool g.shows)
  c6 : w.cell? ⟨g.P, 6, none⟩ = some (.int .i64 (varsOf g.P w : Nat))
  c7 : w.cell? ⟨g.P, 7, none⟩ = some (.bool g.macro_)
  warm : w.frozen? ⟨g.P, 6, none⟩ = false
  fns : Vars g w g.fp g.fn
  consts : Vars g w g.cp g.cn
  macros : Vars g w g.mp g.mn
  few : g.fn ≤ 100 ∧ g.cn ≤ 100 ∧ g.mn ≤ 100
  credit : varsOf g.P w ≤ 2 * atOf g.d.D w

def isMut (g : Made) (a : Addr) : Prop := a = ⟨g.d.D, 1, none⟩ ∨ a = ⟨g.P, 6, none⟩

theorem Vars.keep {g : Made} {w w' : World} {p : Option Addr} {n : Nat} (h : Vars g w p n) (hb : But (isMut g) w w') : Vars g w' p n :=
  ⟨h.1.keep hb (fun b o i e q => by
    rcases q with q | q
    · injection q with q1 _ _; exact (h.2 b o e).1 q1
    · injection q with q1 _ _; exact (h.2 b o e).2 q1), h.2⟩

theorem MadeAt.keep {g : Made} {w w' : World} (h : MadeAt g w) (hb : But (isMut g) w w') {k v : Nat} (hk : w'.cell? ⟨g.d.D, 1, none⟩ = some (.int .i64 (k : Int))) (hn : k ≤ g.d.n)
    (hv : w'.cell? ⟨g.P, 6, none⟩ = some (.int .i64 (v : Int))) (hc : v ≤ 2 * k) : MadeAt g w' := by
  have nP : ∀ i, i ≠ 6 → ¬ isMut g ⟨g.P, i, none⟩ := by
    intro i hi q
    rcases q with q | q
    · injection q with q1 _ _; exact h.apart q1
    · injection q with _ q2 _; exact hi q2
  have nD : ¬ isMut g ⟨g.d.D, 0, none⟩ := by
    intro q
    rcases q with q | q
    · injection q with _ q2 _; omega
    · injection q with q1 _ _; exact h.apart q1.symm
  have nR : ∀ b o i, g.d.p = some ⟨b, o, none⟩ → ¬ isMut g ⟨b, i, none⟩ := by
    intro b o i e q
    rcases q with q | q
    · injection q with q1 _ _; exact h.dice.away b o e q1
    · injection q with q1 _ _; exact h.rowP b o e q1
  exact ⟨h.dice.keep hb nD nR hk hn, h.apart, h.rowP, hb.keep h.c0 (nP _ (by omega)), hb.keep h.c1 (nP _ (by omega)), hb.keep h.c2 (nP _ (by omega)), hb.keep h.c3 (nP _ (by omega)),
    hb.keep h.c4 (nP _ (by omega)), hb.keep h.c5 (nP _ (by omega)), by rw [varsOf_eq hv]; exact hv, hb.keep h.c7 (nP _ (by omega)),
    by rw [hb.frozen _ (World.block_lt_of_cell? w _ h.c6)]; exact h.warm, h.fns.keep hb, h.consts.keep hb, h.macros.keep hb, h.few, by rw [varsOf_eq hv, atOf_eq hk]; exact hc⟩

/-- what the making of an expression does: it throws dice, and counts variables, two at most for each throw -/
structure Went (g : Made) (w w' : World) : Prop where
  but : But (isMut g) w w'
  good : MadeAt g w'
  le : atOf g.d.D w ≤ atOf g.d.D w'
  credit : varsOf g.P w' + 2 * atOf g.d.D w ≤ varsOf g.P w + 2 * atOf g.d.D w'

theorem Went.refl {g : Made} {w : World} (h : MadeAt g w) : Went g w w := ⟨But.refl _ _, h, Nat.le_refl _, Nat.le_refl _⟩
theorem Went.trans {g : Made} {a b c : World} (h : Went g a b) (k : Went g b c) : Went g a c := ⟨h.but.trans k.but, k.good, Nat.le_trans h.le k.le, by have := h.credit; have := k.credit; omega⟩
theorem went_still {g : Made} {w w' : World} (h : MadeAt g w) (hb : But (fun _ => False) w w') : Went g w w' := by
  have hb' : But (isMut g) w w' := hb.mono (fun _ q => q.elim)
  have hk := hb.keep h.dice.at_ (fun q => q)
  have hv := hb.keep h.c6 (fun q => q)
  exact ⟨hb', h.keep hb' hk h.dice.le hv h.credit, by rw [atOf_eq hk]; exact Nat.le_refl _, by rw [atOf_eq hk, varsOf_eq hv]; exact Nat.le_refl _⟩
theorem went_below {g : Made} {w w' : World} (h : MadeAt g w) (hb : Below w.heap.size w w') : Went g w w' := went_still h (But.of_below hb)
theorem went_drewN {g : Made} {w : World} (h : MadeAt g w) (n : Nat) : Went g w (w.drewN n) := went_still h (But.drewN w n)
theorem went_alloc {g : Made} {w : World} (h : MadeAt g w) (o : Obj) : Went g w (w.alloc o) := went_still h (But.alloc w o)
theorem went_thrown {g : Made} {w w' : World} (h : MadeAt g w) (ht : Thrown g.d w w') : Went g w w' := by
  have hb' : But (isMut g) w w' := ht.but.mono (fun a q => Or.inl q)
  have hv : w'.cell? ⟨g.P, 6, none⟩ = some (.int .i64 (varsOf g.P w : Nat)) := ht.but.keep h.c6 (fun q => by unfold isAt at q; injection q with q1 _ _; exact h.apart q1)
  have hl := ht.le
  exact ⟨hb', h.keep hb' ht.good.at_ ht.good.le hv (by have := h.credit; omega), hl, by rw [varsOf_eq hv]; omega⟩

/-- a text of at most B bytes is made -/
def Makes (g : Made) (f : FuncId) (args : Array Value) (B : Nat) (w : World) : Prop :=
  Calls Tryz.prog f args w fun e w' => ∃ s : ByteArray, s.size ≤ B ∧ e = .returned (.string s) ∧ Went g w w'

/-- the making of expressions up to a depth -/
def MakesAt (f : FuncId) (lo dep : Int) (B : Nat) : Prop :=
  ∀ (g : Made) (k : Int) (p : Option Addr) (n cap : Nat) (w : World), k ≤ dep → lo ≤ k → MadeAt g w → Vars g w p n → (n : Int) + 4 * k ≤ 90 → Makes g f #[.pointer (some ⟨g.P, 0, none⟩), .int .i64 k, .slice p n cap] B w

/-- the same of a number as it stands in the walk -/
theorem nextI_any (d : Dice) (m : Int) (w : World) (hd : DiceAt d w) (h1 : 1 ≤ m) (h2 : m ≤ 1000000) :
    Calls Tryz.prog 28 #[.pointer (some ⟨d.D, 0, none⟩), .int .i64 m] w fun e w' => ∃ k : Nat, (k : Int) < m ∧ e = .returned (.int .i64 (k : Int)) ∧ Thrown d w w' ∧ (0 < k → atOf d.D w < atOf d.D w') := by
  obtain ⟨y, rfl⟩ := Int.eq_ofNat_of_zero_le (by omega : 0 ≤ m)
  exact (next_any d y w hd (by omega) (by omega)).mono fun e w' ⟨k, a, b⟩ => ⟨k, by omega, b⟩

set_option maxRecDepth 1000000 in
set_option maxHeartbeats 1000000 in
/-- (*Program).Int at depth 0 -/
theorem int0_few (g : Made) (k : Int) (p : Option Addr) (n cap : Nat) (w : World) (hk : k ≤ 0) (hk2 : -1 ≤ k) (hg : MadeAt g w) (hv : Vars g w p n) (hn : n ≤ 100) : Makes g 62 #[.pointer (some ⟨g.P, 0, none⟩), .int .i64 k, .slice p n cap] 8 w := by
  have HG := Lib.hid hg
  have HV := Lib.hid hv
  have c0 := hg.c0
  clear hg hv
  unfold Makes
  by_cases h0 : n = 0
  · subst h0
    go_enter Tryz.func62, Tryz.ntmps62
    go_wp2_with fail
    refine (nextI_any g.d 20 _ HG.out.dice (by omega) (by omega)).mono ?_
    rintro e w1 ⟨x, hx, rfl, ht, -⟩
    have H1 := Lib.hid (went_thrown HG.out ht)
    clear ht
    go_wp2_with fail
    refine (digits_any x _ (by omega)).mono ?_
    rintro e w2 ⟨s, hs, rfl, hb⟩
    have H2 := Lib.hid (H1.out.trans (went_below H1.out.good hb))
    have HS := Lib.hid hs
    clear hb hs
    go_wp2_with fail
    go_ret
    exact ⟨s, by have := HS.out; omega, rfl, H2.out⟩
  · have hpos : (0 : Int) < (n : Int) := by omega
    go_enter Tryz.func62, Tryz.ntmps62
    go_wp2_with fail
    refine (nextI_any g.d 2 _ HG.out.dice (by omega) (by omega)).mono ?_
    rintro e w1 ⟨x, hx, rfl, ht, -⟩
    have H1 := Lib.hid (went_thrown HG.out ht)
    clear ht
    rcases (by omega : x = 0 ∨ x = 1) with rfl | rfl
    · go_wp2_with fail
      refine (nextI_any g.d 20 _ H1.out.good.dice (by omega) (by omega)).mono ?_
      rintro e w2 ⟨y, hy, rfl, ht, -⟩
      have H2 := Lib.hid (H1.out.trans (went_thrown H1.out.good ht))
      clear ht
      go_wp2_with fail
      refine (digits_any y _ (by omega)).mono ?_
      rintro e w3 ⟨s, hs, rfl, hb⟩
      have H3 := Lib.hid (H2.out.trans (went_below H2.out.good hb))
      have HS := Lib.hid hs
      clear hb hs
      go_wp2_with fail
      go_ret
      exact ⟨s, by have := HS.out; omega, rfl, H3.out⟩
    · go_wp2_with fail
      refine (nextI_any g.d n _ H1.out.good.dice (by omega) (by omega)).mono ?_
      rintro e w2 ⟨y, hy, rfl, ht, -⟩
      have H2 := Lib.hid (H1.out.trans (went_thrown H1.out.good ht))
      clear ht
      obtain ⟨b, o, s, hp, hc, hs⟩ := (HV.out.keep H2.out.but).1 y (by omega)
      subst hp
      have HS := Lib.hid hs
      clear hs
      go_wp2_with fail
      go_ret
      exact ⟨s, HS.out, rfl, H2.out⟩

theorem int0_any : MakesAt 62 (-1) 0 8 := fun g k p n cap w hk hk2 hg hv hn => int0_few g k p n cap w hk hk2 hg hv (by omega)
end Go.Proofs.YtnkojbnkdihbkaaGreat

/-
  CONTRACTS: expressions with Show, and of type bool: from those of less depth.
-/
namespace Go.Proofs.YtnkojbnkdihbkaaGreat
open Go Go.RowKit
set_option linter.unusedVariables false

theorem lit_size (a : Array UInt8) : (⟨a⟩ : ByteArray).size = a.size := rfl
theorem away_new {d : Dice} {w : World} (h : DiceAt d w) : w.heap.size ≠ d.D := by have := World.block_lt_of_cell? w _ h.row; simp at this; omega
theorem shorts_two (a b : ByteArray) (ha : a.size ≤ 8) (hb : b.size ≤ 8) (t : TypeId) (w : World) : Shorts 8 (w.alloc (.cells #[.string a, .string b] t)) (some ⟨w.heap.size, 0, none⟩) 2 := by
  intro i hi
  refine ⟨w.heap.size, 0, if i = 0 then a else b, rfl, ?_, by split <;> assumption⟩
  rcases (by omega : i = 0 ∨ i = 1) with rfl | rfl <;> simp

set_option maxRecDepth 1000000 in
set_option maxHeartbeats 1000000 in
theorem shown_step (dep : Int) (hd : dep ≤ 100) (BI BS R : Nat) (b1 : BI ≤ 10000) (b2 : BS ≤ 10000) (hI : MakesAt 62 (-1) (dep - 1) BI) (hS : 0 < dep → MakesAt 101 0 (dep - 1) BS) (r1 : 18 ≤ R) (r2 : BS + 9 ≤ R) (r3 : BI ≤ R) : MakesAt 101 0 dep R := by
  intro g k p n cap w hk hk2 hg hv hn
  have H0 := Lib.hid (Went.refl hg)
  have HV := Lib.hid hv
  have c0 := hg.c0
  have c4 := hg.c4
  clear hg hv
  unfold Makes
  have e1 : IntKind.i64.wrap (k - 1) = k - 1 := IntWalk.i64_in _ (by omega)
  obtain hr | hr : g.records = true ∨ g.records = false := by cases g.records <;> simp
  · rw [hr] at c4
    by_cases hp : 0 < k
    · have hS := hS (by omega)
      go_enter Tryz.func101, Tryz.ntmps101
      go_wp2_with fail
      refine (nextI_any g.d 4 _ H0.out.good.dice (by omega) (by omega)).mono ?_
      rintro e w1 ⟨x, hx, rfl, ht, -⟩
      have H1 := Lib.hid (H0.out.trans (went_thrown H0.out.good ht))
      clear ht
      rcases (by omega : x = 0 ∨ x = 1 ∨ x = 2 ∨ x = 3) with rfl | rfl | rfl | rfl
      · have _ := hk
        go_wp2_with fail
        refine (int0_any g 0 p n cap _ (by omega) (by omega) H1.out.good (HV.out.keep H1.out.but) (by omega)).mono ?_
        rintro e w2 ⟨s, zs, rfl, ht⟩
        have H2 := Lib.hid (H1.out.trans ht)
        clear ht
        go_wp2_with fail
        go_ret
        exact ⟨_, by first | omega | (simp [ByteArray.size_append, lit_size]; omega), rfl, H2.out⟩
      · have _ := hk
        go_wp2_with fail
        refine (hS g (k - 1) p n cap _ (by omega) (by omega) H1.out.good (HV.out.keep H1.out.but) (by omega)).mono ?_
        rintro e w2 ⟨s, zs, rfl, ht⟩
        have H2 := Lib.hid (H1.out.trans ht)
        clear ht
        go_wp2_with fail
        go_ret
        exact ⟨_, by first | omega | (simp [ByteArray.size_append, lit_size]; omega), rfl, H2.out⟩
      · have _ := hk
        go_wp2_with fail
        refine (hI g (k - 1) p n cap _ (by omega) (by omega) H1.out.good (HV.out.keep H1.out.but) (by omega)).mono ?_
        rintro e w2 ⟨s, zs, rfl, ht⟩
        have H2 := Lib.hid (H1.out.trans ht)
        clear ht
        go_wp2_with fail
        go_ret
        exact ⟨_, by first | omega | (simp [ByteArray.size_append, lit_size]; omega), rfl, H2.out⟩
      · have _ := hk
        go_wp2_with fail
        refine (hI g (k - 1) p n cap _ (by omega) (by omega) H1.out.good (HV.out.keep H1.out.but) (by omega)).mono ?_
        rintro e w2 ⟨s, zs, rfl, ht⟩
        have H2 := Lib.hid (H1.out.trans ht)
        clear ht
        go_wp2_with fail
        go_ret
        exact ⟨_, by first | omega | (simp [ByteArray.size_append, lit_size]; omega), rfl, H2.out⟩
    · have _ := hk
      go_enter Tryz.func101, Tryz.ntmps101
      go_wp2_with fail
      refine (hI g (k - 1) p n cap _ (by omega) (by omega) H0.out.good (HV.out.keep H0.out.but) (by omega)).mono ?_
      rintro e w1 ⟨s, zs, rfl, ht⟩
      have H1 := Lib.hid (H0.out.trans ht)
      clear ht
      go_wp2_with fail
      go_ret
      exact ⟨_, by first | omega | (simp [ByteArray.size_append, lit_size]; omega), rfl, H1.out⟩
  · rw [hr] at c4
    go_enter Tryz.func101, Tryz.ntmps101
    go_wp2_with fail
    refine (hI g (k - 1) p n cap _ (by omega) (by omega) H0.out.good (HV.out.keep H0.out.but) (by omega)).mono ?_
    rintro e w1 ⟨s, zs, rfl, ht⟩
    have H1 := Lib.hid (H0.out.trans ht)
    clear ht
    go_wp2_with fail
    go_ret
    exact ⟨_, by first | omega | (simp [ByteArray.size_append, lit_size]; omega), rfl, H1.out⟩

set_option maxRecDepth 1000000 in
set_option maxHeartbeats 1000000 in
theorem bool_step (dep : Int) (hd : dep ≤ 100) (BI BB R : Nat) (b1 : BI ≤ 10000) (b2 : BB ≤ 10000) (hI : MakesAt 62 (-1) (dep - 1) BI) (hB : 0 < dep → MakesAt 100 0 (dep - 1) BB) (r1 : 15 ≤ R) (r2 : BB + 16 ≤ R) (r3 : BI + 18 ≤ R) : MakesAt 100 0 dep R := by
  intro g k p n cap w hk hk2 hg hv hn
  have H0 := Lib.hid (Went.refl hg)
  have HV := Lib.hid hv
  have c0 := hg.c0
  have c4 := hg.c4
  clear hg hv
  unfold Makes
  have e1 : IntKind.i64.wrap (k - 1) = k - 1 := IntWalk.i64_in _ (by omega)
  by_cases hp : 0 < k
  · have hB := hB (by omega)
    go_enter Tryz.func100, Tryz.ntmps100
    go_wp2_with fail
    refine (nextI_any g.d 5 _ H0.out.good.dice (by omega) (by omega)).mono ?_
    rintro e w1 ⟨x, hx, rfl, ht, -⟩
    have H1 := Lib.hid (H0.out.trans (went_thrown H0.out.good ht))
    clear ht
    rcases (by omega : x = 0 ∨ x = 1 ∨ x = 2 ∨ x = 3 ∨ x = 4) with rfl | rfl | rfl | rfl | rfl
    · have _ := hk
      go_wp2_with fail
      refine (int0_any g 0 p n cap _ (by omega) (by omega) H1.out.good (HV.out.keep H1.out.but) (by omega)).mono ?_
      rintro e w2 ⟨s, zs, rfl, ht⟩
      have H2 := Lib.hid (H1.out.trans ht)
      clear ht
      go_wp2_with fail
      go_ret
      exact ⟨_, by first | omega | (simp [ByteArray.size_append, lit_size]; omega), rfl, H2.out⟩
    · have _ := hk
      go_wp2_with fail
      refine (hB g (k - 1) p n cap _ (by omega) (by omega) H1.out.good (HV.out.keep H1.out.but) (by omega)).mono ?_
      rintro e w2 ⟨s, zs, rfl, ht⟩
      have H2 := Lib.hid (H1.out.trans ht)
      clear ht
      go_wp2_with fail
      refine (of_any g.d 8 2 _ _ _ _ (went_alloc H2.out.good _).good.dice (by omega) (by omega) (shorts_two _ _ (by decide) (by decide) _ _) (away_new H2.out.good.dice)).mono ?_
      rintro e w3 ⟨t, zt, rfl, ht⟩
      have H3 := Lib.hid ((H2.out.trans (went_alloc H2.out.good _)).trans (went_thrown (went_alloc H2.out.good _).good ht))
      clear ht
      go_wp2_with fail
      go_ret
      exact ⟨_, by first | omega | (simp [ByteArray.size_append, lit_size]; omega), rfl, H3.out⟩
    · have _ := hk
      go_wp2_with fail
      refine (of_any g.d 8 2 _ _ _ _ (went_alloc H1.out.good _).good.dice (by omega) (by omega) (shorts_two _ _ (by decide) (by decide) _ _) (away_new H1.out.good.dice)).mono ?_
      rintro e w2 ⟨t, zt, rfl, ht⟩
      have H2 := Lib.hid ((H1.out.trans (went_alloc H1.out.good _)).trans (went_thrown (went_alloc H1.out.good _).good ht))
      clear ht
      go_wp2_with fail
      go_ret
      exact ⟨_, by first | omega | (simp [ByteArray.size_append, lit_size]; omega), rfl, H2.out⟩
    · have _ := hk
      go_wp2_with fail
      refine (hI g (k - 1) p n cap _ (by omega) (by omega) H1.out.good (HV.out.keep H1.out.but) (by omega)).mono ?_
      rintro e w2 ⟨s, zs, rfl, ht⟩
      have H2 := Lib.hid (H1.out.trans ht)
      clear ht
      go_wp2_with fail
      refine (of_any g.d 8 2 _ _ _ _ (went_alloc H2.out.good _).good.dice (by omega) (by omega) (shorts_two _ _ (by decide) (by decide) _ _) (away_new H2.out.good.dice)).mono ?_
      rintro e w3 ⟨t, zt, rfl, ht⟩
      have H3 := Lib.hid ((H2.out.trans (went_alloc H2.out.good _)).trans (went_thrown (went_alloc H2.out.good _).good ht))
      clear ht
      go_wp2_with fail
      refine (int0_any g 0 p n cap _ (by omega) (by omega) H3.out.good (HV.out.keep H3.out.but) (by omega)).mono ?_
      rintro e w4 ⟨u, zu, rfl, ht⟩
      have H4 := Lib.hid (H3.out.trans ht)
      clear ht
      go_wp2_with fail
      go_ret
      exact ⟨_, by first | omega | (simp [ByteArray.size_append, lit_size]; omega), rfl, H4.out⟩
    · have _ := hk
      go_wp2_with fail
      refine (hI g (k - 1) p n cap _ (by omega) (by omega) H1.out.good (HV.out.keep H1.out.but) (by omega)).mono ?_
      rintro e w2 ⟨s, zs, rfl, ht⟩
      have H2 := Lib.hid (H1.out.trans ht)
      clear ht
      go_wp2_with fail
      refine (of_any g.d 8 2 _ _ _ _ (went_alloc H2.out.good _).good.dice (by omega) (by omega) (shorts_two _ _ (by decide) (by decide) _ _) (away_new H2.out.good.dice)).mono ?_
      rintro e w3 ⟨t, zt, rfl, ht⟩
      have H3 := Lib.hid ((H2.out.trans (went_alloc H2.out.good _)).trans (went_thrown (went_alloc H2.out.good _).good ht))
      clear ht
      go_wp2_with fail
      refine (int0_any g 0 p n cap _ (by omega) (by omega) H3.out.good (HV.out.keep H3.out.but) (by omega)).mono ?_
      rintro e w4 ⟨u, zu, rfl, ht⟩
      have H4 := Lib.hid (H3.out.trans ht)
      clear ht
      go_wp2_with fail
      go_ret
      exact ⟨_, by first | omega | (simp [ByteArray.size_append, lit_size]; omega), rfl, H4.out⟩
  · have _ := hk
    go_enter Tryz.func100, Tryz.ntmps100
    go_wp2_with fail
    refine (nextI_any g.d 5 _ H0.out.good.dice (by omega) (by omega)).mono ?_
    rintro e w1 ⟨x, hx, rfl, ht, -⟩
    have H1 := Lib.hid (H0.out.trans (went_thrown H0.out.good ht))
    clear ht
    rcases (by omega : x = 0 ∨ x = 1 ∨ x = 2 ∨ x = 3 ∨ x = 4) with rfl | rfl | rfl | rfl | rfl
    · have _ := hk
      go_wp2_with fail
      refine (int0_any g 0 p n cap _ (by omega) (by omega) H1.out.good (HV.out.keep H1.out.but) (by omega)).mono ?_
      rintro e w2 ⟨s, zs, rfl, ht⟩
      have H2 := Lib.hid (H1.out.trans ht)
      clear ht
      go_wp2_with fail
      go_ret
      exact ⟨_, by first | omega | (simp [ByteArray.size_append, lit_size]; omega), rfl, H2.out⟩
    · have _ := hk
      go_wp2_with fail
      refine (hI g (k - 1) p n cap _ (by omega) (by omega) H1.out.good (HV.out.keep H1.out.but) (by omega)).mono ?_
      rintro e w2 ⟨s, zs, rfl, ht⟩
      have H2 := Lib.hid (H1.out.trans ht)
      clear ht
      go_wp2_with fail
      refine (of_any g.d 8 2 _ _ _ _ (went_alloc H2.out.good _).good.dice (by omega) (by omega) (shorts_two _ _ (by decide) (by decide) _ _) (away_new H2.out.good.dice)).mono ?_
      rintro e w3 ⟨t, zt, rfl, ht⟩
      have H3 := Lib.hid ((H2.out.trans (went_alloc H2.out.good _)).trans (went_thrown (went_alloc H2.out.good _).good ht))
      clear ht
      go_wp2_with fail
      refine (int0_any g 0 p n cap _ (by omega) (by omega) H3.out.good (HV.out.keep H3.out.but) (by omega)).mono ?_
      rintro e w4 ⟨u, zu, rfl, ht⟩
      have H4 := Lib.hid (H3.out.trans ht)
      clear ht
      go_wp2_with fail
      go_ret
      exact ⟨_, by first | omega | (simp [ByteArray.size_append, lit_size]; omega), rfl, H4.out⟩
    · have _ := hk
      go_wp2_with fail
      refine (of_any g.d 8 2 _ _ _ _ (went_alloc H1.out.good _).good.dice (by omega) (by omega) (shorts_two _ _ (by decide) (by decide) _ _) (away_new H1.out.good.dice)).mono ?_
      rintro e w2 ⟨t, zt, rfl, ht⟩
      have H2 := Lib.hid ((H1.out.trans (went_alloc H1.out.good _)).trans (went_thrown (went_alloc H1.out.good _).good ht))
      clear ht
      go_wp2_with fail
      go_ret
      exact ⟨_, by first | omega | (simp [ByteArray.size_append, lit_size]; omega), rfl, H2.out⟩
    · have _ := hk
      go_wp2_with fail
      refine (hI g (k - 1) p n cap _ (by omega) (by omega) H1.out.good (HV.out.keep H1.out.but) (by omega)).mono ?_
      rintro e w2 ⟨s, zs, rfl, ht⟩
      have H2 := Lib.hid (H1.out.trans ht)
      clear ht
      go_wp2_with fail
      refine (of_any g.d 8 2 _ _ _ _ (went_alloc H2.out.good _).good.dice (by omega) (by omega) (shorts_two _ _ (by decide) (by decide) _ _) (away_new H2.out.good.dice)).mono ?_
      rintro e w3 ⟨t, zt, rfl, ht⟩
      have H3 := Lib.hid ((H2.out.trans (went_alloc H2.out.good _)).trans (went_thrown (went_alloc H2.out.good _).good ht))
      clear ht
      go_wp2_with fail
      refine (int0_any g 0 p n cap _ (by omega) (by omega) H3.out.good (HV.out.keep H3.out.but) (by omega)).mono ?_
      rintro e w4 ⟨u, zu, rfl, ht⟩
      have H4 := Lib.hid (H3.out.trans ht)
      clear ht
      go_wp2_with fail
      go_ret
      exact ⟨_, by first | omega | (simp [ByteArray.size_append, lit_size]; omega), rfl, H4.out⟩
    · have _ := hk
      go_wp2_with fail
      refine (hI g (k - 1) p n cap _ (by omega) (by omega) H1.out.good (HV.out.keep H1.out.but) (by omega)).mono ?_
      rintro e w2 ⟨s, zs, rfl, ht⟩
      have H2 := Lib.hid (H1.out.trans ht)
      clear ht
      go_wp2_with fail
      refine (of_any g.d 8 2 _ _ _ _ (went_alloc H2.out.good _).good.dice (by omega) (by omega) (shorts_two _ _ (by decide) (by decide) _ _) (away_new H2.out.good.dice)).mono ?_
      rintro e w3 ⟨t, zt, rfl, ht⟩
      have H3 := Lib.hid ((H2.out.trans (went_alloc H2.out.good _)).trans (went_thrown (went_alloc H2.out.good _).good ht))
      clear ht
      go_wp2_with fail
      refine (int0_any g 0 p n cap _ (by omega) (by omega) H3.out.good (HV.out.keep H3.out.but) (by omega)).mono ?_
      rintro e w4 ⟨u, zu, rfl, ht⟩
      have H4 := Lib.hid (H3.out.trans ht)
      clear ht
      go_wp2_with fail
      go_ret
      exact ⟨_, by first | omega | (simp [ByteArray.size_append, lit_size]; omega), rfl, H4.out⟩

end Go.Proofs.YtnkojbnkdihbkaaGreat
