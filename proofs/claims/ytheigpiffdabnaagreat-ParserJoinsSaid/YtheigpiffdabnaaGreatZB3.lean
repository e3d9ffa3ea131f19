/-
  CONTRACTS: expressions of type int: from those of less depth.
-/
import Derived.Test.YtheigpiffdabnaaGreatZB2
import Derived.Test.YtheigpiffdabnaaGreatZB1
import Derived.Laws.AppendOwn
set_option linter.unusedSimpArgs false
set_option linter.unusedVariables false
namespace Go.Proofs.YtheigpiffdabnaaGreat
open Go Go.RowKit
def LeM (g : Made) (w w' : World) : Prop := MadeAt g w → Went g w w'
theorem LeM.refl (g : Made) (w : World) : LeM g w w := fun h => Went.refl h
theorem LeM.trans (g : Made) (w1 w2 w3 : World) (a : LeM g w1 w2) (b : LeM g w2 w3) : LeM g w1 w3 := fun h => (a h).trans (b (a h).good)
def tyStr (Le : World → World → Prop) (n : Nat) : Ty Le := tyOf Le (α := {s : ByteArray // s.size ≤ n}) ⟨⟨ByteArray.empty, Nat.zero_le _⟩⟩ (fun s => .string s.1)
def tyNum (Le : World → World → Prop) (n : Nat) (h : 0 < n) : Ty Le := tyOf Le (α := {k : Nat // k < n}) ⟨⟨0, h⟩⟩ (fun k => .int .i64 (k.1 : Int))
def tyPtr (Le : World → World → Prop) (n : Nat) (h : 0 < n) (b o : Nat) : Ty Le := tyOf Le (α := {k : Nat // k < n}) ⟨⟨0, h⟩⟩ (fun k => .pointer (some ⟨b, o + k.1, none⟩))
theorem tyIs_f (Le : World → World → Prop) (v : Value) (x : (tyIs Le v).α) : (tyIs Le v).f x = v := rfl
theorem tyNum_f (Le : World → World → Prop) (n : Nat) (h : 0 < n) (k : Nat) (hk : k < n) : (tyNum Le n h).f ⟨k, hk⟩ = .int .i64 (k : Int) := rfl
theorem tyPtr_f (Le : World → World → Prop) (n : Nat) (h : 0 < n) (b o k : Nat) (hk : k < n) : (tyPtr Le n h b o).f ⟨k, hk⟩ = .pointer (some ⟨b, o + k, none⟩) := rfl
theorem tyStr_f (Le : World → World → Prop) (n : Nat) (s : ByteArray) (hs : s.size ≤ n) : (tyStr Le n).f ⟨s, hs⟩ = .string s := rfl
attribute [local go_sem] tyIs_f tyNum_f tyPtr_f tyStr_f
/-- strings of which something is known: at most B bytes, and one such string -/
structure Qd where
 φ : ByteArray → Prop
 s0 : ByteArray
 h0 : φ s0
 B : Nat
 le : ∀ s, φ s → s.size ≤ B
def Qd.lit (l : ByteArray) : Qd := ⟨fun x => x = l, l, rfl, l.size, fun s h => by rw [h]; exact Nat.le_refl _⟩
def Qd.cat (q r : Qd) : Qd := ⟨fun x => ∃ a b, q.φ a ∧ r.φ b ∧ x = a ++ b, q.s0 ++ r.s0, ⟨_, _, q.h0, r.h0, rfl⟩, q.B + r.B, fun s h => by
 obtain ⟨a, b, ha, hb, rfl⟩ := h
 rw [ByteArray.size_append]
 exact Nat.add_le_add (q.le a ha) (r.le b hb)⟩
theorem Qd.cat_mk {q r : Qd} {a b : ByteArray} (ha : q.φ a) (hb : r.φ b) : (q.cat r).φ (a ++ b) := ⟨a, b, ha, hb, rfl⟩
theorem Qd.lit_mk (l : ByteArray) : (Qd.lit l).φ l := rfl
theorem Qd.lit_B (l : ByteArray) : (Qd.lit l).B = l.size := rfl
theorem Qd.cat_B (q r : Qd) : (q.cat r).B = q.B + r.B := rfl
def tyD (Le : World → World → Prop) (q : Qd) : Ty Le := tyOf Le (α := {s : ByteArray // q.φ s}) ⟨⟨q.s0, q.h0⟩⟩ (fun s => .string s.1)
theorem tyD_f (Le : World → World → Prop) (q : Qd) (s : ByteArray) (hs : q.φ s) : (tyD Le q).f ⟨s, hs⟩ = .string s := rfl
attribute [local go_sem] tyD_f
theorem nm_a (g : Made) : g.nm ⟨#[97]⟩ := ⟨by decide, g.Φ.n_a⟩
def SzS (g : Made) (B l : Nat) (s : ByteArray) : Prop := s.size ≤ B ∧ g.Φ.S l s
theorem szs_a (g : Made) (B l : Nat) (h : 1 ≤ B) : SzS g B l ⟨#[97]⟩ := ⟨h, g.Φ.s_up (g.Φ.s_a (g.Φ.a_n g.Φ.n_a)) (Nat.zero_le _)⟩
def qNm (g : Made) : Qd := ⟨g.nm, _, nm_a g, 8, fun s h => h.1⟩
def qSz (g : Made) (B l : Nat) (h : 1 ≤ B) : Qd := ⟨SzS g B l, _, szs_a g B l h, B, fun s h => h.1⟩
theorem one8 : 1 ≤ 8 := by decide
theorem qNm_B (g : Made) : (qNm g).B = 8 := rfl
theorem qSz_B (g : Made) (B l : Nat) (h : 1 ≤ B) : (qSz g B l h).B = B := rfl
theorem vars_at {g : Made} {w : World} {p : Option Addr} {n b o y : Nat} (h : Vars g w p n) (hp : p = some ⟨b, o, none⟩) (hy : y < n) : ∃ s : ByteArray, w.cell? ⟨b, o + y, none⟩ = some (.string s) ∧ g.nm s := by
 obtain ⟨b', o', s, hp', hc, hs⟩ := h.1 y hy
 rw [hp] at hp'
 injection hp' with hp'
 injection hp' with u1 u2 _
 subst u1
 subst u2
 exact ⟨s, hc, hs⟩
theorem rel_is {P : Program} {Le : World → World → Prop} (hr : ∀ w, Le w w) {v : Value} {w : World} : relUpon P Le (tyIs Le v) w (.ok (.value v) w) := ⟨hr w, (), rfl, trivial⟩
set_option maxRecDepth 1000000 in
set_option maxHeartbeats 20000000 in
theorem int_step (l : Nat) (dep : Int) (hd1 : 1 ≤ dep) (hd : dep ≤ 100) (BI BB BK BS R : Nat) (b0 : 1 ≤ BI) (b1 : BI ≤ 10000) (b2 : BB ≤ 10000) (b3 : BK ≤ 10000) (b4 : BS ≤ 10000) (hI : MakesAt 24 (-1) (dep - 1) BI (fun Φ => Φ.S l)) (hB : MakesAt 32 0 (dep - 1) BB (fun Φ => Φ.E l)) (hK : MakesAt 17 0 (dep - 1) BK (fun Φ => Φ.K l)) (hS : MakesAt 33 0 (dep - 1) BS (fun Φ => Φ.S l)) (r1 : 2 * BI + 12 ≤ R) (r2 : BI + 26 ≤ R) (r3 : BB + 2 * BI + 18 ≤ R) (r4 : BK ≤ R) (r5 : BS + 6 ≤ R) : MakesAt 24 (-1) dep R (fun Φ => Φ.S (l + 3)) := by
 intro g k p n cap w hk hk2 hg hv hn
 have H0 := Lib.hid (Went.refl hg)
 have HV := Lib.hid hv
 have c0 := hg.c0
 have c4 := hg.c4
 clear hg hv
 unfold Makes
 have e1 : IntKind.i64.wrap (k - 1) = k - 1 := IntWalk.i64_in _ (by omega)
 by_cases hp : 0 < k
 ·have _ := hk
  go_enter Tryz.func24, Tryz.ntmps24
  go_wp2_with fail
  refine (nextI_any g.d 14 _ H0.out.good.dice (by omega) (by omega)).mono ?_
  rintro e w1 ⟨x, hx, rfl, ht, -⟩
  have H1 := Lib.hid (H0.out.trans (went_thrown H0.out.good ht))
  clear ht
  obtain ⟨f1, f2, f3⟩ := H1.out.good.few
  have c0 := H1.out.good.c0
  have c1 := H1.out.good.c1
  have c2 := H1.out.good.c2
  have c3 := H1.out.good.c3
  have c4 := H1.out.good.c4
  have c5 := H1.out.good.c5
  rcases (by omega : x = 0 ∨ x = 1 ∨ x = 2 ∨ x = 3 ∨ x = 4 ∨ x = 5 ∨ x = 6 ∨ x = 7 ∨ x = 8 ∨ x = 9 ∨ x = 10 ∨ x = 11 ∨ x = 12 ∨ x = 13) with rfl | rfl | rfl | rfl | rfl | rfl | rfl | rfl | rfl | rfl | rfl | rfl | rfl | rfl
  ·have _ := hk
   go_wp2_with fail
   refine (hI g (k - 1) p n cap _ (by omega) (by omega) H1.out.good (HV.out.keep H1.out.but) (by omega)).mono ?_
   rintro e w2 ⟨s, ⟨zs, qs⟩, rfl, ht⟩
   have H2 := Lib.hid (H1.out.trans ht)
   have Qs := Lib.hid qs
   clear ht qs
   go_wp2_with fail
   refine (ofS_any OpP g.d 3 _ _ _ _ (went_alloc H2.out.good _).good.dice (by omega) (by omega) (strs_three op_1 op_2 op_3 _ _) (away_new H2.out.good.dice)).mono ?_
   rintro e w3 ⟨t, ⟨zt, qt⟩, rfl, ht⟩
   have Qt := Lib.hid qt
   clear qt
   have H3 := Lib.hid ((H2.out.trans (went_alloc H2.out.good _)).trans (went_thrown (went_alloc H2.out.good _).good ht))
   clear ht
   go_wp2_with fail
   refine (hI g (k - 1) p n cap _ (by omega) (by omega) H3.out.good (HV.out.keep H3.out.but) (by omega)).mono ?_
   rintro e w4 ⟨u, ⟨zu, qu⟩, rfl, ht⟩
   have H4 := Lib.hid (H3.out.trans ht)
   have Qu := Lib.hid qu
   clear ht qu
   go_wp2_with fail
   go_ret
   exact ⟨_, ⟨by first | omega | (simp [ByteArray.size_append, lit_size]; omega), g.Φ.s_up (g.Φ.s_par Qs.out Qt.out Qu.out) (by omega)⟩, rfl, H4.out⟩
  ·have _ := hk
   go_wp2_with fail
   refine (hI g (k - 1) p n cap _ (by omega) (by omega) H1.out.good (HV.out.keep H1.out.but) (by omega)).mono ?_
   rintro e w2 ⟨s, ⟨zs, qs⟩, rfl, ht⟩
   have H2 := Lib.hid (H1.out.trans ht)
   have Qs := Lib.hid qs
   clear ht qs
   go_wp2_with fail
   refine (ofS_any OpP g.d 4 _ _ _ _ (went_alloc H2.out.good _).good.dice (by omega) (by omega) (strs_four op_1 op_3 op_4 op_5 _ _) (away_new H2.out.good.dice)).mono ?_
   rintro e w3 ⟨t, ⟨zt, qt⟩, rfl, ht⟩
   have Qt := Lib.hid qt
   clear qt
   have H3 := Lib.hid ((H2.out.trans (went_alloc H2.out.good _)).trans (went_thrown (went_alloc H2.out.good _).good ht))
   clear ht
   go_wp2_with fail
   refine (int0_any l g 0 p n cap _ (by omega) (by omega) H3.out.good (HV.out.keep H3.out.but) (by omega)).mono ?_
   rintro e w4 ⟨u, ⟨zu, qu⟩, rfl, ht⟩
   have H4 := Lib.hid (H3.out.trans ht)
   have Qu := Lib.hid qu
   clear ht qu
   go_wp2_with fail
   go_ret
   exact ⟨_, ⟨by first | omega | (simp [ByteArray.size_append, lit_size]; omega), g.Φ.s_up (g.Φ.s_op Qs.out Qt.out Qu.out) (by omega)⟩, rfl, H4.out⟩
  ·have _ := hk
   go_wp2_with fail
   refine (hB g (k - 1) p n cap _ (by omega) (by omega) H1.out.good (HV.out.keep H1.out.but) (by omega)).mono ?_
   rintro e w2 ⟨s, ⟨zs, qs⟩, rfl, ht⟩
   have H2 := Lib.hid (H1.out.trans ht)
   have Qs := Lib.hid qs
   clear ht qs
   go_wp2_with fail
   refine (hI g (k - 1) p n cap _ (by omega) (by omega) H2.out.good (HV.out.keep H2.out.but) (by omega)).mono ?_
   rintro e w3 ⟨t, ⟨zt, qt⟩, rfl, ht⟩
   have H3 := Lib.hid (H2.out.trans ht)
   have Qt := Lib.hid qt
   clear ht qt
   go_wp2_with fail
   refine (hI g (k - 1) p n cap _ (by omega) (by omega) H3.out.good (HV.out.keep H3.out.but) (by omega)).mono ?_
   rintro e w4 ⟨u, ⟨zu, qu⟩, rfl, ht⟩
   have H4 := Lib.hid (H3.out.trans ht)
   have Qu := Lib.hid qu
   clear ht qu
   go_wp2_with fail
   go_ret
   exact ⟨_, ⟨by first | omega | (simp [ByteArray.size_append, lit_size]; omega), g.Φ.s_up (g.Φ.s_if (g.Φ.e_up Qs.out (Nat.le_succ _)) Qt.out Qu.out) (by omega)⟩, rfl, H4.out⟩
  ·have _ := hk
   go_wp2_with fail
   refine (hK g (k - 1) p n cap _ (by omega) (by omega) H1.out.good (HV.out.keep H1.out.but) (by omega)).mono ?_
   rintro e w2 ⟨s, ⟨zs, qs⟩, rfl, ht⟩
   have H2 := Lib.hid (H1.out.trans ht)
   have Qs := Lib.hid qs
   clear ht qs
   go_wp2_with fail
   go_ret
   exact ⟨_, ⟨by first | omega | (simp [ByteArray.size_append, lit_size]; omega), g.Φ.s_up (g.Φ.s_k Qs.out) (by omega)⟩, rfl, H2.out⟩
  ·have _ := hk
   by_cases hf : 0 < g.fn
   ·have hf2 : (0 : Int) < (g.fn : Int) := by omega
    obtain ⟨b, o, _, hpp, _, _⟩ := H1.out.good.fns.1 0 hf
    have HPP := Lib.hid hpp
    go_wp2_with fail
    have GW := Lib.hid (went_drewN H1.out.good 1).good
    apply wp_region_rel (LeM.refl g) (LeM.trans g)
    case hm => kernel_rfl
    case hB => kernel_rfl
    apply wpRel_cons (t := tyIs _ _)
    case h1 => (intro w' hl hd; have gd := (hl GW.out).good; have q0 := gd.c0; have q1 := gd.c1; have q2 := gd.c2; have q3 := gd.c3; clear gd hd hl; unfold relAt; go_simp; exact rel_is (LeM.refl g))
    intro _
    rw [tyIs_f]
    go_simp
    apply wpRel_cons (t := tyIs _ _)
    case h1 => (intro w' hl hd; have gd := (hl GW.out).good; have q0 := gd.c0; have q1 := gd.c1; have q2 := gd.c2; have q3 := gd.c3; clear gd hd hl; unfold relAt; go_simp; exact rel_is (LeM.refl g))
    intro _
    rw [tyIs_f]
    go_simp
    apply wpRel_cons (t := tyIs _ _)
    case h1 => (intro w' hl hd; have gd := (hl GW.out).good; have q0 := gd.c0; have q1 := gd.c1; have q2 := gd.c2; have q3 := gd.c3; clear gd hd hl; unfold relAt; go_simp; exact rel_is (LeM.refl g))
    intro _
    rw [tyIs_f]
    go_simp
    apply wpRel_cons (t := tyIs _ _)
    case h1 => (intro w' hl hd; have gd := (hl GW.out).good; have q0 := gd.c0; have q1 := gd.c1; have q2 := gd.c2; have q3 := gd.c3; clear gd hd hl; unfold relAt; go_simp; exact rel_is (LeM.refl g))
    intro _
    rw [tyIs_f]
    go_simp
    apply wpRel_cons (t := tyIs _ _)
    case h1 => (intro w' hl hd; have gd := (hl GW.out).good; have q0 := gd.c0; have q1 := gd.c1; have q2 := gd.c2; have q3 := gd.c3; clear gd hd hl; unfold relAt; go_simp; exact rel_is (LeM.refl g))
    intro _
    rw [tyIs_f]
    go_simp
    apply wpRel_cons (t := tyIs _ _)
    case h1 => (intro w' hl hd; have gd := (hl GW.out).good; have q0 := gd.c0; have q1 := gd.c1; have q2 := gd.c2; have q3 := gd.c3; clear gd hd hl; unfold relAt; go_simp; exact rel_is (LeM.refl g))
    intro _
    rw [tyIs_f]
    go_simp
    apply wpRel_cons (t := tyIs _ _)
    case h1 => (intro w' hl hd; have gd := (hl GW.out).good; have q0 := gd.c0; have q1 := gd.c1; have q2 := gd.c2; have q3 := gd.c3; clear gd hd hl; unfold relAt; go_simp; exact rel_is (LeM.refl g))
    intro _
    rw [tyIs_f]
    go_simp
    apply wpRel_cons (t := tyIs _ _)
    case h1 => (intro w' hl hd; have gd := (hl GW.out).good; have q0 := gd.c0; have q1 := gd.c1; have q2 := gd.c2; have q3 := gd.c3; clear gd hd hl; unfold relAt; go_simp; exact rel_is (LeM.refl g))
    intro _
    rw [tyIs_f]
    go_simp
    apply wpRel_cons (t := tyIs _ _)
    case h1 => (intro w' hl hd; have gd := (hl GW.out).good; have q0 := gd.c0; have q1 := gd.c1; have q2 := gd.c2; have q3 := gd.c3; clear gd hd hl; unfold relAt; go_simp; exact rel_is (LeM.refl g))
    intro _
    rw [tyIs_f]
    go_simp
    apply wpRel_cons (t := tyIs _ _)
    case h1 => (intro w' hl hd; have gd := (hl GW.out).good; have q0 := gd.c0; have q1 := gd.c1; have q2 := gd.c2; have q3 := gd.c3; clear gd hd hl; unfold relAt; go_simp; exact rel_is (LeM.refl g))
    intro _
    rw [tyIs_f]
    go_simp
    apply wpRel_cons (t := tyNum _ g.fn hf)
    case h1 => (intro w' hl hd; have gd := (hl GW.out).good; have GD := Lib.hid gd; have HV' := Lib.hid (HV.out.keep ((H1.out.trans (went_drewN H1.out.good 1)).trans (hl GW.out)).but); clear gd hd hl; unfold relAt; go_simp; refine ⟨LeM.refl g _, ?_⟩; refine (nextI_any g.d g.fn _ GD.out.dice (by omega) (by omega)).mono ?_; rintro e w2 ⟨y, hy, rfl, ht, -⟩; exact ⟨⟨y, by omega⟩, rfl, fun h => went_thrown h ht, trivial⟩)
    rintro ⟨y, hy⟩
    rw [tyNum_f]
    go_simp
    apply wpRel_cons (t := tyPtr _ g.fn hf b o)
    case h1 => (intro w' hl hd; have gd := (hl GW.out).good; have GD := Lib.hid gd; have HV' := Lib.hid (HV.out.keep ((H1.out.trans (went_drewN H1.out.good 1)).trans (hl GW.out)).but); clear gd hd hl; unfold relAt; go_simp; exact ⟨LeM.refl g _, ⟨y, hy⟩, rfl, trivial⟩)
    rintro ⟨yp, hyp⟩
    rw [tyPtr_f]
    go_simp
    apply wpRel_cons (t := tyD _ (qNm g))
    case h1 => (intro w' hl hd; have gd := (hl GW.out).good; have GD := Lib.hid gd; have HV' := Lib.hid (HV.out.keep ((H1.out.trans (went_drewN H1.out.good 1)).trans (hl GW.out)).but); clear gd hd hl; obtain ⟨s, hc, hs⟩ := vars_at GD.out.fns HPP.out hyp; unfold relAt; go_simp; exact ⟨LeM.refl g _, ⟨s, hs⟩, rfl, trivial⟩)
    rintro ⟨s1, qs1⟩
    rw [tyD_f]
    go_simp
    have zs1 := ((qNm g)).le s1 qs1; simp only [Qd.cat_B, Qd.lit_B, qNm_B, qSz_B, lit_size, List.size_toArray, List.length_cons, List.length_nil] at zs1
    apply wpRel_cons (t := tyD _ (Qd.cat (qNm g) (Qd.lit ⟨#[40]⟩)))
    case h1 => (intro w' hl hd; have gd := (hl GW.out).good; have GD := Lib.hid gd; have HV' := Lib.hid (HV.out.keep ((H1.out.trans (went_drewN H1.out.good 1)).trans (hl GW.out)).but); clear gd hd hl; unfold relAt; go_simp; rw [if_neg (by first | omega | (simp only [lit_size, List.size_toArray, List.length_cons, List.length_nil]; omega))]; exact ⟨LeM.refl g _, ⟨_, Qd.cat_mk qs1 (Qd.lit_mk _)⟩, rfl, trivial⟩)
    rintro ⟨s2, qs2⟩
    rw [tyD_f]
    go_simp
    have zs2 := ((Qd.cat (qNm g) (Qd.lit ⟨#[40]⟩))).le s2 qs2; simp only [Qd.cat_B, Qd.lit_B, qNm_B, qSz_B, lit_size, List.size_toArray, List.length_cons, List.length_nil] at zs2
    apply wpRel_cons (t := tyIs _ _)
    case h1 => (intro w' hl hd; have gd := (hl GW.out).good; have q0 := gd.c0; have q1 := gd.c1; have q2 := gd.c2; have q3 := gd.c3; clear gd hd hl; unfold relAt; go_simp; exact rel_is (LeM.refl g))
    intro _
    rw [tyIs_f]
    go_simp
    apply wpRel_cons (t := tyIs _ _)
    case h1 => (intro w' hl hd; have gd := (hl GW.out).good; have q0 := gd.c0; have q1 := gd.c1; have q2 := gd.c2; have q3 := gd.c3; clear gd hd hl; unfold relAt; go_simp; exact rel_is (LeM.refl g))
    intro _
    rw [tyIs_f]
    go_simp
    apply wpRel_cons (t := tyIs _ _)
    case h1 => (intro w' hl hd; have gd := (hl GW.out).good; have q0 := gd.c0; have q1 := gd.c1; have q2 := gd.c2; have q3 := gd.c3; clear gd hd hl; unfold relAt; go_simp; exact rel_is (LeM.refl g))
    intro _
    rw [tyIs_f]
    go_simp
    apply wpRel_cons (t := tyIs _ _)
    case h1 => (intro w' hl hd; have gd := (hl GW.out).good; have q0 := gd.c0; have q1 := gd.c1; have q2 := gd.c2; have q3 := gd.c3; clear gd hd hl; unfold relAt; go_simp; exact rel_is (LeM.refl g))
    intro _
    rw [tyIs_f]
    go_simp
    apply wpRel_cons (t := tyD _ (qSz g BI l b0))
    case h1 => (intro w' hl hd; have gd := (hl GW.out).good; have GD := Lib.hid gd; have HV' := Lib.hid (HV.out.keep ((H1.out.trans (went_drewN H1.out.good 1)).trans (hl GW.out)).but); clear gd hd hl; unfold relAt; go_simp; refine ⟨LeM.refl g _, ?_⟩; refine (hI g (k - 1) p n cap _ (by omega) (by omega) GD.out HV'.out (by omega)).mono ?_; rintro e w2 ⟨s3, zs3, rfl, ht⟩; exact ⟨⟨s3, zs3⟩, rfl, fun _ => ht, trivial⟩)
    rintro ⟨s3, qs3⟩
    rw [tyD_f]
    go_simp
    have zs3 := ((qSz g BI l b0)).le s3 qs3; simp only [Qd.cat_B, Qd.lit_B, qNm_B, qSz_B, lit_size, List.size_toArray, List.length_cons, List.length_nil] at zs3
    apply wpRel_cons (t := tyD _ (Qd.cat (Qd.cat (qNm g) (Qd.lit ⟨#[40]⟩)) (qSz g BI l b0)))
    case h1 => (intro w' hl hd; have gd := (hl GW.out).good; have GD := Lib.hid gd; have HV' := Lib.hid (HV.out.keep ((H1.out.trans (went_drewN H1.out.good 1)).trans (hl GW.out)).but); clear gd hd hl; unfold relAt; go_simp; rw [if_neg (by first | omega | (simp only [lit_size, List.size_toArray, List.length_cons, List.length_nil]; omega))]; exact ⟨LeM.refl g _, ⟨_, Qd.cat_mk qs2 qs3⟩, rfl, trivial⟩)
    rintro ⟨s4, qs4⟩
    rw [tyD_f]
    go_simp
    have zs4 := ((Qd.cat (Qd.cat (qNm g) (Qd.lit ⟨#[40]⟩)) (qSz g BI l b0))).le s4 qs4; simp only [Qd.cat_B, Qd.lit_B, qNm_B, qSz_B, lit_size, List.size_toArray, List.length_cons, List.length_nil] at zs4
    apply wpRel_cons (t := tyD _ (Qd.cat (Qd.cat (Qd.cat (qNm g) (Qd.lit ⟨#[40]⟩)) (qSz g BI l b0)) (Qd.lit ⟨#[44, 32]⟩)))
    case h1 => (intro w' hl hd; have gd := (hl GW.out).good; have GD := Lib.hid gd; have HV' := Lib.hid (HV.out.keep ((H1.out.trans (went_drewN H1.out.good 1)).trans (hl GW.out)).but); clear gd hd hl; unfold relAt; go_simp; rw [if_neg (by first | omega | (simp only [lit_size, List.size_toArray, List.length_cons, List.length_nil]; omega))]; exact ⟨LeM.refl g _, ⟨_, Qd.cat_mk qs4 (Qd.lit_mk _)⟩, rfl, trivial⟩)
    rintro ⟨s5, qs5⟩
    rw [tyD_f]
    go_simp
    have zs5 := ((Qd.cat (Qd.cat (Qd.cat (qNm g) (Qd.lit ⟨#[40]⟩)) (qSz g BI l b0)) (Qd.lit ⟨#[44, 32]⟩))).le s5 qs5; simp only [Qd.cat_B, Qd.lit_B, qNm_B, qSz_B, lit_size, List.size_toArray, List.length_cons, List.length_nil] at zs5
    apply wpRel_cons (t := tyIs _ _)
    case h1 => (intro w' hl hd; have gd := (hl GW.out).good; have q0 := gd.c0; have q1 := gd.c1; have q2 := gd.c2; have q3 := gd.c3; clear gd hd hl; unfold relAt; go_simp; exact rel_is (LeM.refl g))
    intro _
    rw [tyIs_f]
    go_simp
    apply wpRel_cons (t := tyIs _ _)
    case h1 => (intro w' hl hd; have gd := (hl GW.out).good; have q0 := gd.c0; have q1 := gd.c1; have q2 := gd.c2; have q3 := gd.c3; clear gd hd hl; unfold relAt; go_simp; exact rel_is (LeM.refl g))
    intro _
    rw [tyIs_f]
    go_simp
    apply wpRel_cons (t := tyD _ (qSz g 8 l one8))
    case h1 => (intro w' hl hd; have gd := (hl GW.out).good; have GD := Lib.hid gd; have HV' := Lib.hid (HV.out.keep ((H1.out.trans (went_drewN H1.out.good 1)).trans (hl GW.out)).but); clear gd hd hl; unfold relAt; go_simp; refine ⟨LeM.refl g _, ?_⟩; refine (int0_any l g 0 p n cap _ (by omega) (by omega) GD.out HV'.out (by omega)).mono ?_; rintro e w2 ⟨s6, zs6, rfl, ht⟩; exact ⟨⟨s6, zs6⟩, rfl, fun _ => ht, trivial⟩)
    rintro ⟨s6, qs6⟩
    rw [tyD_f]
    go_simp
    have zs6 := ((qSz g 8 l one8)).le s6 qs6; simp only [Qd.cat_B, Qd.lit_B, qNm_B, qSz_B, lit_size, List.size_toArray, List.length_cons, List.length_nil] at zs6
    apply wpRel_cons (t := tyD _ (Qd.cat (Qd.cat (Qd.cat (Qd.cat (qNm g) (Qd.lit ⟨#[40]⟩)) (qSz g BI l b0)) (Qd.lit ⟨#[44, 32]⟩)) (qSz g 8 l one8)))
    case h1 => (intro w' hl hd; have gd := (hl GW.out).good; have GD := Lib.hid gd; have HV' := Lib.hid (HV.out.keep ((H1.out.trans (went_drewN H1.out.good 1)).trans (hl GW.out)).but); clear gd hd hl; unfold relAt; go_simp; rw [if_neg (by first | omega | (simp only [lit_size, List.size_toArray, List.length_cons, List.length_nil]; omega))]; exact ⟨LeM.refl g _, ⟨_, Qd.cat_mk qs5 qs6⟩, rfl, trivial⟩)
    rintro ⟨s7, qs7⟩
    rw [tyD_f]
    go_simp
    have zs7 := ((Qd.cat (Qd.cat (Qd.cat (Qd.cat (qNm g) (Qd.lit ⟨#[40]⟩)) (qSz g BI l b0)) (Qd.lit ⟨#[44, 32]⟩)) (qSz g 8 l one8))).le s7 qs7; simp only [Qd.cat_B, Qd.lit_B, qNm_B, qSz_B, lit_size, List.size_toArray, List.length_cons, List.length_nil] at zs7
    apply wpRel_cons (t := tyD _ (Qd.cat (Qd.cat (Qd.cat (Qd.cat (Qd.cat (qNm g) (Qd.lit ⟨#[40]⟩)) (qSz g BI l b0)) (Qd.lit ⟨#[44, 32]⟩)) (qSz g 8 l one8)) (Qd.lit ⟨#[41]⟩)))
    case h1 => (intro w' hl hd; have gd := (hl GW.out).good; have GD := Lib.hid gd; have HV' := Lib.hid (HV.out.keep ((H1.out.trans (went_drewN H1.out.good 1)).trans (hl GW.out)).but); clear gd hd hl; unfold relAt; go_simp; rw [if_neg (by first | omega | (simp only [lit_size, List.size_toArray, List.length_cons, List.length_nil]; omega))]; exact ⟨LeM.refl g _, ⟨_, Qd.cat_mk qs7 (Qd.lit_mk _)⟩, rfl, trivial⟩)
    rintro ⟨s8, qs8⟩
    rw [tyD_f]
    go_simp
    have zs8 := ((Qd.cat (Qd.cat (Qd.cat (Qd.cat (Qd.cat (qNm g) (Qd.lit ⟨#[40]⟩)) (qSz g BI l b0)) (Qd.lit ⟨#[44, 32]⟩)) (qSz g 8 l one8)) (Qd.lit ⟨#[41]⟩))).le s8 qs8; simp only [Qd.cat_B, Qd.lit_B, qNm_B, qSz_B, lit_size, List.size_toArray, List.length_cons, List.length_nil] at zs8
    apply wpRel_cons (t := tyD _ (Qd.cat (Qd.cat (Qd.cat (Qd.cat (Qd.cat (qNm g) (Qd.lit ⟨#[40]⟩)) (qSz g BI l b0)) (Qd.lit ⟨#[44, 32]⟩)) (qSz g 8 l one8)) (Qd.lit ⟨#[41]⟩)))
    case h1 => (intro w' hl hd; have gd := (hl GW.out).good; have GD := Lib.hid gd; have HV' := Lib.hid (HV.out.keep ((H1.out.trans (went_drewN H1.out.good 1)).trans (hl GW.out)).but); clear gd hd hl; unfold relAt; go_simp; exact ⟨LeM.refl g _, ⟨_, qs8⟩, rfl, trivial⟩)
    rintro ⟨s9, qs9⟩
    rw [tyD_f]
    go_simp
    have zs9 := ((Qd.cat (Qd.cat (Qd.cat (Qd.cat (Qd.cat (qNm g) (Qd.lit ⟨#[40]⟩)) (qSz g BI l b0)) (Qd.lit ⟨#[44, 32]⟩)) (qSz g 8 l one8)) (Qd.lit ⟨#[41]⟩))).le s9 qs9; simp only [Qd.cat_B, Qd.lit_B, qNm_B, qSz_B, lit_size, List.size_toArray, List.length_cons, List.length_nil] at zs9
    apply wpRel_nil (Ts := [])
    intro w' hl _
    have H2 := Lib.hid ((H1.out.trans (went_drewN H1.out.good 1)).trans (hl GW.out))
    clear hl
    obtain ⟨_, _, ⟨_, _, ⟨_, _, ⟨_, _, ⟨_, _, h1, rfl, rfl⟩, h3, rfl⟩, rfl, rfl⟩, h6, rfl⟩, rfl, rfl⟩ := qs9
    go_wp2_with fail
    go_ret
    exact ⟨_, ⟨by first | omega | (simp [ByteArray.size_append, lit_size]; omega), g.Φ.s_up (g.Φ.s_call h1.2 h3.2 h6.2) (by omega)⟩, rfl, H2.out⟩
   ·have hf0 : g.fn = 0 := by omega
    rw [hf0] at c1
    go_wp2_with fail
    refine (int0_any l g 0 p n cap _ (by omega) (by omega) H1.out.good (HV.out.keep H1.out.but) (by omega)).mono ?_
    rintro e w2 ⟨z, ⟨zz, qz⟩, rfl, ht⟩
    have H2 := Lib.hid (H1.out.trans ht)
    have Qz := Lib.hid qz
    clear ht qz
    go_wp2_with fail
    go_ret
    exact ⟨_, ⟨by first | omega | (simp [ByteArray.size_append, lit_size]; omega), g.Φ.s_up (Qz.out) (by omega)⟩, rfl, H2.out⟩
  ·have _ := hk
   by_cases hf : 0 < g.fn
   ·have hf2 : (0 : Int) < (g.fn : Int) := by omega
    obtain ⟨b, o, _, hpp, _, _⟩ := H1.out.good.fns.1 0 hf
    have HPP := Lib.hid hpp
    go_wp2_with fail
    have GW := Lib.hid (went_drewN H1.out.good 1).good
    apply wp_region_rel (LeM.refl g) (LeM.trans g)
    case hm => kernel_rfl
    case hB => kernel_rfl
    apply wpRel_cons (t := tyIs _ _)
    case h1 => (intro w' hl hd; have gd := (hl GW.out).good; have q0 := gd.c0; have q1 := gd.c1; have q2 := gd.c2; have q3 := gd.c3; clear gd hd hl; unfold relAt; go_simp; exact rel_is (LeM.refl g))
    intro _
    rw [tyIs_f]
    go_simp
    apply wpRel_cons (t := tyIs _ _)
    case h1 => (intro w' hl hd; have gd := (hl GW.out).good; have q0 := gd.c0; have q1 := gd.c1; have q2 := gd.c2; have q3 := gd.c3; clear gd hd hl; unfold relAt; go_simp; exact rel_is (LeM.refl g))
    intro _
    rw [tyIs_f]
    go_simp
    apply wpRel_cons (t := tyIs _ _)
    case h1 => (intro w' hl hd; have gd := (hl GW.out).good; have q0 := gd.c0; have q1 := gd.c1; have q2 := gd.c2; have q3 := gd.c3; clear gd hd hl; unfold relAt; go_simp; exact rel_is (LeM.refl g))
    intro _
    rw [tyIs_f]
    go_simp
    apply wpRel_cons (t := tyIs _ _)
    case h1 => (intro w' hl hd; have gd := (hl GW.out).good; have q0 := gd.c0; have q1 := gd.c1; have q2 := gd.c2; have q3 := gd.c3; clear gd hd hl; unfold relAt; go_simp; exact rel_is (LeM.refl g))
    intro _
    rw [tyIs_f]
    go_simp
    apply wpRel_cons (t := tyIs _ _)
    case h1 => (intro w' hl hd; have gd := (hl GW.out).good; have q0 := gd.c0; have q1 := gd.c1; have q2 := gd.c2; have q3 := gd.c3; clear gd hd hl; unfold relAt; go_simp; exact rel_is (LeM.refl g))
    intro _
    rw [tyIs_f]
    go_simp
    apply wpRel_cons (t := tyIs _ _)
    case h1 => (intro w' hl hd; have gd := (hl GW.out).good; have q0 := gd.c0; have q1 := gd.c1; have q2 := gd.c2; have q3 := gd.c3; clear gd hd hl; unfold relAt; go_simp; exact rel_is (LeM.refl g))
    intro _
    rw [tyIs_f]
    go_simp
    apply wpRel_cons (t := tyIs _ _)
    case h1 => (intro w' hl hd; have gd := (hl GW.out).good; have q0 := gd.c0; have q1 := gd.c1; have q2 := gd.c2; have q3 := gd.c3; clear gd hd hl; unfold relAt; go_simp; exact rel_is (LeM.refl g))
    intro _
    rw [tyIs_f]
    go_simp
    apply wpRel_cons (t := tyIs _ _)
    case h1 => (intro w' hl hd; have gd := (hl GW.out).good; have q0 := gd.c0; have q1 := gd.c1; have q2 := gd.c2; have q3 := gd.c3; clear gd hd hl; unfold relAt; go_simp; exact rel_is (LeM.refl g))
    intro _
    rw [tyIs_f]
    go_simp
    apply wpRel_cons (t := tyIs _ _)
    case h1 => (intro w' hl hd; have gd := (hl GW.out).good; have q0 := gd.c0; have q1 := gd.c1; have q2 := gd.c2; have q3 := gd.c3; clear gd hd hl; unfold relAt; go_simp; exact rel_is (LeM.refl g))
    intro _
    rw [tyIs_f]
    go_simp
    apply wpRel_cons (t := tyIs _ _)
    case h1 => (intro w' hl hd; have gd := (hl GW.out).good; have q0 := gd.c0; have q1 := gd.c1; have q2 := gd.c2; have q3 := gd.c3; clear gd hd hl; unfold relAt; go_simp; exact rel_is (LeM.refl g))
    intro _
    rw [tyIs_f]
    go_simp
    apply wpRel_cons (t := tyNum _ g.fn hf)
    case h1 => (intro w' hl hd; have gd := (hl GW.out).good; have GD := Lib.hid gd; have HV' := Lib.hid (HV.out.keep ((H1.out.trans (went_drewN H1.out.good 1)).trans (hl GW.out)).but); clear gd hd hl; unfold relAt; go_simp; refine ⟨LeM.refl g _, ?_⟩; refine (nextI_any g.d g.fn _ GD.out.dice (by omega) (by omega)).mono ?_; rintro e w2 ⟨y, hy, rfl, ht, -⟩; exact ⟨⟨y, by omega⟩, rfl, fun h => went_thrown h ht, trivial⟩)
    rintro ⟨y, hy⟩
    rw [tyNum_f]
    go_simp
    apply wpRel_cons (t := tyPtr _ g.fn hf b o)
    case h1 => (intro w' hl hd; have gd := (hl GW.out).good; have GD := Lib.hid gd; have HV' := Lib.hid (HV.out.keep ((H1.out.trans (went_drewN H1.out.good 1)).trans (hl GW.out)).but); clear gd hd hl; unfold relAt; go_simp; exact ⟨LeM.refl g _, ⟨y, hy⟩, rfl, trivial⟩)
    rintro ⟨yp, hyp⟩
    rw [tyPtr_f]
    go_simp
    apply wpRel_cons (t := tyD _ (qNm g))
    case h1 => (intro w' hl hd; have gd := (hl GW.out).good; have GD := Lib.hid gd; have HV' := Lib.hid (HV.out.keep ((H1.out.trans (went_drewN H1.out.good 1)).trans (hl GW.out)).but); clear gd hd hl; obtain ⟨s, hc, hs⟩ := vars_at GD.out.fns HPP.out hyp; unfold relAt; go_simp; exact ⟨LeM.refl g _, ⟨s, hs⟩, rfl, trivial⟩)
    rintro ⟨s1, qs1⟩
    rw [tyD_f]
    go_simp
    have zs1 := ((qNm g)).le s1 qs1; simp only [Qd.cat_B, Qd.lit_B, qNm_B, qSz_B, lit_size, List.size_toArray, List.length_cons, List.length_nil] at zs1
    apply wpRel_cons (t := tyD _ (Qd.cat (qNm g) (Qd.lit ⟨#[40]⟩)))
    case h1 => (intro w' hl hd; have gd := (hl GW.out).good; have GD := Lib.hid gd; have HV' := Lib.hid (HV.out.keep ((H1.out.trans (went_drewN H1.out.good 1)).trans (hl GW.out)).but); clear gd hd hl; unfold relAt; go_simp; rw [if_neg (by first | omega | (simp only [lit_size, List.size_toArray, List.length_cons, List.length_nil]; omega))]; exact ⟨LeM.refl g _, ⟨_, Qd.cat_mk qs1 (Qd.lit_mk _)⟩, rfl, trivial⟩)
    rintro ⟨s2, qs2⟩
    rw [tyD_f]
    go_simp
    have zs2 := ((Qd.cat (qNm g) (Qd.lit ⟨#[40]⟩))).le s2 qs2; simp only [Qd.cat_B, Qd.lit_B, qNm_B, qSz_B, lit_size, List.size_toArray, List.length_cons, List.length_nil] at zs2
    apply wpRel_cons (t := tyIs _ _)
    case h1 => (intro w' hl hd; have gd := (hl GW.out).good; have q0 := gd.c0; have q1 := gd.c1; have q2 := gd.c2; have q3 := gd.c3; clear gd hd hl; unfold relAt; go_simp; exact rel_is (LeM.refl g))
    intro _
    rw [tyIs_f]
    go_simp
    apply wpRel_cons (t := tyIs _ _)
    case h1 => (intro w' hl hd; have gd := (hl GW.out).good; have q0 := gd.c0; have q1 := gd.c1; have q2 := gd.c2; have q3 := gd.c3; clear gd hd hl; unfold relAt; go_simp; exact rel_is (LeM.refl g))
    intro _
    rw [tyIs_f]
    go_simp
    apply wpRel_cons (t := tyIs _ _)
    case h1 => (intro w' hl hd; have gd := (hl GW.out).good; have q0 := gd.c0; have q1 := gd.c1; have q2 := gd.c2; have q3 := gd.c3; clear gd hd hl; unfold relAt; go_simp; exact rel_is (LeM.refl g))
    intro _
    rw [tyIs_f]
    go_simp
    apply wpRel_cons (t := tyIs _ _)
    case h1 => (intro w' hl hd; have gd := (hl GW.out).good; have q0 := gd.c0; have q1 := gd.c1; have q2 := gd.c2; have q3 := gd.c3; clear gd hd hl; unfold relAt; go_simp; exact rel_is (LeM.refl g))
    intro _
    rw [tyIs_f]
    go_simp
    apply wpRel_cons (t := tyD _ (qSz g BI l b0))
    case h1 => (intro w' hl hd; have gd := (hl GW.out).good; have GD := Lib.hid gd; have HV' := Lib.hid (HV.out.keep ((H1.out.trans (went_drewN H1.out.good 1)).trans (hl GW.out)).but); clear gd hd hl; unfold relAt; go_simp; refine ⟨LeM.refl g _, ?_⟩; refine (hI g (k - 1) p n cap _ (by omega) (by omega) GD.out HV'.out (by omega)).mono ?_; rintro e w2 ⟨s3, zs3, rfl, ht⟩; exact ⟨⟨s3, zs3⟩, rfl, fun _ => ht, trivial⟩)
    rintro ⟨s3, qs3⟩
    rw [tyD_f]
    go_simp
    have zs3 := ((qSz g BI l b0)).le s3 qs3; simp only [Qd.cat_B, Qd.lit_B, qNm_B, qSz_B, lit_size, List.size_toArray, List.length_cons, List.length_nil] at zs3
    apply wpRel_cons (t := tyD _ (Qd.cat (Qd.cat (qNm g) (Qd.lit ⟨#[40]⟩)) (qSz g BI l b0)))
    case h1 => (intro w' hl hd; have gd := (hl GW.out).good; have GD := Lib.hid gd; have HV' := Lib.hid (HV.out.keep ((H1.out.trans (went_drewN H1.out.good 1)).trans (hl GW.out)).but); clear gd hd hl; unfold relAt; go_simp; rw [if_neg (by first | omega | (simp only [lit_size, List.size_toArray, List.length_cons, List.length_nil]; omega))]; exact ⟨LeM.refl g _, ⟨_, Qd.cat_mk qs2 qs3⟩, rfl, trivial⟩)
    rintro ⟨s4, qs4⟩
    rw [tyD_f]
    go_simp
    have zs4 := ((Qd.cat (Qd.cat (qNm g) (Qd.lit ⟨#[40]⟩)) (qSz g BI l b0))).le s4 qs4; simp only [Qd.cat_B, Qd.lit_B, qNm_B, qSz_B, lit_size, List.size_toArray, List.length_cons, List.length_nil] at zs4
    apply wpRel_cons (t := tyD _ (Qd.cat (Qd.cat (Qd.cat (qNm g) (Qd.lit ⟨#[40]⟩)) (qSz g BI l b0)) (Qd.lit ⟨#[44, 32]⟩)))
    case h1 => (intro w' hl hd; have gd := (hl GW.out).good; have GD := Lib.hid gd; have HV' := Lib.hid (HV.out.keep ((H1.out.trans (went_drewN H1.out.good 1)).trans (hl GW.out)).but); clear gd hd hl; unfold relAt; go_simp; rw [if_neg (by first | omega | (simp only [lit_size, List.size_toArray, List.length_cons, List.length_nil]; omega))]; exact ⟨LeM.refl g _, ⟨_, Qd.cat_mk qs4 (Qd.lit_mk _)⟩, rfl, trivial⟩)
    rintro ⟨s5, qs5⟩
    rw [tyD_f]
    go_simp
    have zs5 := ((Qd.cat (Qd.cat (Qd.cat (qNm g) (Qd.lit ⟨#[40]⟩)) (qSz g BI l b0)) (Qd.lit ⟨#[44, 32]⟩))).le s5 qs5; simp only [Qd.cat_B, Qd.lit_B, qNm_B, qSz_B, lit_size, List.size_toArray, List.length_cons, List.length_nil] at zs5
    apply wpRel_cons (t := tyIs _ _)
    case h1 => (intro w' hl hd; have gd := (hl GW.out).good; have q0 := gd.c0; have q1 := gd.c1; have q2 := gd.c2; have q3 := gd.c3; clear gd hd hl; unfold relAt; go_simp; exact rel_is (LeM.refl g))
    intro _
    rw [tyIs_f]
    go_simp
    apply wpRel_cons (t := tyIs _ _)
    case h1 => (intro w' hl hd; have gd := (hl GW.out).good; have q0 := gd.c0; have q1 := gd.c1; have q2 := gd.c2; have q3 := gd.c3; clear gd hd hl; unfold relAt; go_simp; exact rel_is (LeM.refl g))
    intro _
    rw [tyIs_f]
    go_simp
    apply wpRel_cons (t := tyD _ (qSz g 8 l one8))
    case h1 => (intro w' hl hd; have gd := (hl GW.out).good; have GD := Lib.hid gd; have HV' := Lib.hid (HV.out.keep ((H1.out.trans (went_drewN H1.out.good 1)).trans (hl GW.out)).but); clear gd hd hl; unfold relAt; go_simp; refine ⟨LeM.refl g _, ?_⟩; refine (int0_any l g 0 p n cap _ (by omega) (by omega) GD.out HV'.out (by omega)).mono ?_; rintro e w2 ⟨s6, zs6, rfl, ht⟩; exact ⟨⟨s6, zs6⟩, rfl, fun _ => ht, trivial⟩)
    rintro ⟨s6, qs6⟩
    rw [tyD_f]
    go_simp
    have zs6 := ((qSz g 8 l one8)).le s6 qs6; simp only [Qd.cat_B, Qd.lit_B, qNm_B, qSz_B, lit_size, List.size_toArray, List.length_cons, List.length_nil] at zs6
    apply wpRel_cons (t := tyD _ (Qd.cat (Qd.cat (Qd.cat (Qd.cat (qNm g) (Qd.lit ⟨#[40]⟩)) (qSz g BI l b0)) (Qd.lit ⟨#[44, 32]⟩)) (qSz g 8 l one8)))
    case h1 => (intro w' hl hd; have gd := (hl GW.out).good; have GD := Lib.hid gd; have HV' := Lib.hid (HV.out.keep ((H1.out.trans (went_drewN H1.out.good 1)).trans (hl GW.out)).but); clear gd hd hl; unfold relAt; go_simp; rw [if_neg (by first | omega | (simp only [lit_size, List.size_toArray, List.length_cons, List.length_nil]; omega))]; exact ⟨LeM.refl g _, ⟨_, Qd.cat_mk qs5 qs6⟩, rfl, trivial⟩)
    rintro ⟨s7, qs7⟩
    rw [tyD_f]
    go_simp
    have zs7 := ((Qd.cat (Qd.cat (Qd.cat (Qd.cat (qNm g) (Qd.lit ⟨#[40]⟩)) (qSz g BI l b0)) (Qd.lit ⟨#[44, 32]⟩)) (qSz g 8 l one8))).le s7 qs7; simp only [Qd.cat_B, Qd.lit_B, qNm_B, qSz_B, lit_size, List.size_toArray, List.length_cons, List.length_nil] at zs7
    apply wpRel_cons (t := tyD _ (Qd.cat (Qd.cat (Qd.cat (Qd.cat (Qd.cat (qNm g) (Qd.lit ⟨#[40]⟩)) (qSz g BI l b0)) (Qd.lit ⟨#[44, 32]⟩)) (qSz g 8 l one8)) (Qd.lit ⟨#[41]⟩)))
    case h1 => (intro w' hl hd; have gd := (hl GW.out).good; have GD := Lib.hid gd; have HV' := Lib.hid (HV.out.keep ((H1.out.trans (went_drewN H1.out.good 1)).trans (hl GW.out)).but); clear gd hd hl; unfold relAt; go_simp; rw [if_neg (by first | omega | (simp only [lit_size, List.size_toArray, List.length_cons, List.length_nil]; omega))]; exact ⟨LeM.refl g _, ⟨_, Qd.cat_mk qs7 (Qd.lit_mk _)⟩, rfl, trivial⟩)
    rintro ⟨s8, qs8⟩
    rw [tyD_f]
    go_simp
    have zs8 := ((Qd.cat (Qd.cat (Qd.cat (Qd.cat (Qd.cat (qNm g) (Qd.lit ⟨#[40]⟩)) (qSz g BI l b0)) (Qd.lit ⟨#[44, 32]⟩)) (qSz g 8 l one8)) (Qd.lit ⟨#[41]⟩))).le s8 qs8; simp only [Qd.cat_B, Qd.lit_B, qNm_B, qSz_B, lit_size, List.size_toArray, List.length_cons, List.length_nil] at zs8
    apply wpRel_cons (t := tyD _ (Qd.cat (Qd.cat (Qd.cat (Qd.cat (Qd.cat (qNm g) (Qd.lit ⟨#[40]⟩)) (qSz g BI l b0)) (Qd.lit ⟨#[44, 32]⟩)) (qSz g 8 l one8)) (Qd.lit ⟨#[41]⟩)))
    case h1 => (intro w' hl hd; have gd := (hl GW.out).good; have GD := Lib.hid gd; have HV' := Lib.hid (HV.out.keep ((H1.out.trans (went_drewN H1.out.good 1)).trans (hl GW.out)).but); clear gd hd hl; unfold relAt; go_simp; exact ⟨LeM.refl g _, ⟨_, qs8⟩, rfl, trivial⟩)
    rintro ⟨s9, qs9⟩
    rw [tyD_f]
    go_simp
    have zs9 := ((Qd.cat (Qd.cat (Qd.cat (Qd.cat (Qd.cat (qNm g) (Qd.lit ⟨#[40]⟩)) (qSz g BI l b0)) (Qd.lit ⟨#[44, 32]⟩)) (qSz g 8 l one8)) (Qd.lit ⟨#[41]⟩))).le s9 qs9; simp only [Qd.cat_B, Qd.lit_B, qNm_B, qSz_B, lit_size, List.size_toArray, List.length_cons, List.length_nil] at zs9
    apply wpRel_nil (Ts := [])
    intro w' hl _
    have H2 := Lib.hid ((H1.out.trans (went_drewN H1.out.good 1)).trans (hl GW.out))
    clear hl
    obtain ⟨_, _, ⟨_, _, ⟨_, _, ⟨_, _, ⟨_, _, h1, rfl, rfl⟩, h3, rfl⟩, rfl, rfl⟩, h6, rfl⟩, rfl, rfl⟩ := qs9
    go_wp2_with fail
    go_ret
    exact ⟨_, ⟨by first | omega | (simp [ByteArray.size_append, lit_size]; omega), g.Φ.s_up (g.Φ.s_call h1.2 h3.2 h6.2) (by omega)⟩, rfl, H2.out⟩
   ·have hf0 : g.fn = 0 := by omega
    rw [hf0] at c1
    go_wp2_with fail
    refine (int0_any l g 0 p n cap _ (by omega) (by omega) H1.out.good (HV.out.keep H1.out.but) (by omega)).mono ?_
    rintro e w2 ⟨z, ⟨zz, qz⟩, rfl, ht⟩
    have H2 := Lib.hid (H1.out.trans ht)
    have Qz := Lib.hid qz
    clear ht qz
    go_wp2_with fail
    go_ret
    exact ⟨_, ⟨by first | omega | (simp [ByteArray.size_append, lit_size]; omega), g.Φ.s_up (Qz.out) (by omega)⟩, rfl, H2.out⟩
  ·have _ := hk
   by_cases hf : 0 < g.cn
   ·have hf2 : (0 : Int) < (g.cn : Int) := by omega
    obtain ⟨b, o, _, hpp, _, _⟩ := H1.out.good.consts.1 0 hf
    have HPP := Lib.hid hpp
    go_wp2_with fail
    have GW := Lib.hid (went_drewN H1.out.good 1).good
    apply wp_region_rel (LeM.refl g) (LeM.trans g)
    case hm => kernel_rfl
    case hB => kernel_rfl
    apply wpRel_cons (t := tyIs _ _)
    case h1 => (intro w' hl hd; have gd := (hl GW.out).good; have q0 := gd.c0; have q1 := gd.c1; have q2 := gd.c2; have q3 := gd.c3; clear gd hd hl; unfold relAt; go_simp; exact rel_is (LeM.refl g))
    intro _
    rw [tyIs_f]
    go_simp
    apply wpRel_cons (t := tyIs _ _)
    case h1 => (intro w' hl hd; have gd := (hl GW.out).good; have q0 := gd.c0; have q1 := gd.c1; have q2 := gd.c2; have q3 := gd.c3; clear gd hd hl; unfold relAt; go_simp; exact rel_is (LeM.refl g))
    intro _
    rw [tyIs_f]
    go_simp
    apply wpRel_cons (t := tyIs _ _)
    case h1 => (intro w' hl hd; have gd := (hl GW.out).good; have q0 := gd.c0; have q1 := gd.c1; have q2 := gd.c2; have q3 := gd.c3; clear gd hd hl; unfold relAt; go_simp; exact rel_is (LeM.refl g))
    intro _
    rw [tyIs_f]
    go_simp
    apply wpRel_cons (t := tyIs _ _)
    case h1 => (intro w' hl hd; have gd := (hl GW.out).good; have q0 := gd.c0; have q1 := gd.c1; have q2 := gd.c2; have q3 := gd.c3; clear gd hd hl; unfold relAt; go_simp; exact rel_is (LeM.refl g))
    intro _
    rw [tyIs_f]
    go_simp
    apply wpRel_cons (t := tyIs _ _)
    case h1 => (intro w' hl hd; have gd := (hl GW.out).good; have q0 := gd.c0; have q1 := gd.c1; have q2 := gd.c2; have q3 := gd.c3; clear gd hd hl; unfold relAt; go_simp; exact rel_is (LeM.refl g))
    intro _
    rw [tyIs_f]
    go_simp
    apply wpRel_cons (t := tyIs _ _)
    case h1 => (intro w' hl hd; have gd := (hl GW.out).good; have q0 := gd.c0; have q1 := gd.c1; have q2 := gd.c2; have q3 := gd.c3; clear gd hd hl; unfold relAt; go_simp; exact rel_is (LeM.refl g))
    intro _
    rw [tyIs_f]
    go_simp
    apply wpRel_cons (t := tyIs _ _)
    case h1 => (intro w' hl hd; have gd := (hl GW.out).good; have q0 := gd.c0; have q1 := gd.c1; have q2 := gd.c2; have q3 := gd.c3; clear gd hd hl; unfold relAt; go_simp; exact rel_is (LeM.refl g))
    intro _
    rw [tyIs_f]
    go_simp
    apply wpRel_cons (t := tyIs _ _)
    case h1 => (intro w' hl hd; have gd := (hl GW.out).good; have q0 := gd.c0; have q1 := gd.c1; have q2 := gd.c2; have q3 := gd.c3; clear gd hd hl; unfold relAt; go_simp; exact rel_is (LeM.refl g))
    intro _
    rw [tyIs_f]
    go_simp
    apply wpRel_cons (t := tyIs _ _)
    case h1 => (intro w' hl hd; have gd := (hl GW.out).good; have q0 := gd.c0; have q1 := gd.c1; have q2 := gd.c2; have q3 := gd.c3; clear gd hd hl; unfold relAt; go_simp; exact rel_is (LeM.refl g))
    intro _
    rw [tyIs_f]
    go_simp
    apply wpRel_cons (t := tyIs _ _)
    case h1 => (intro w' hl hd; have gd := (hl GW.out).good; have q0 := gd.c0; have q1 := gd.c1; have q2 := gd.c2; have q3 := gd.c3; clear gd hd hl; unfold relAt; go_simp; exact rel_is (LeM.refl g))
    intro _
    rw [tyIs_f]
    go_simp
    apply wpRel_cons (t := tyNum _ g.cn hf)
    case h1 => (intro w' hl hd; have gd := (hl GW.out).good; have GD := Lib.hid gd; have HV' := Lib.hid (HV.out.keep ((H1.out.trans (went_drewN H1.out.good 1)).trans (hl GW.out)).but); clear gd hd hl; unfold relAt; go_simp; refine ⟨LeM.refl g _, ?_⟩; refine (nextI_any g.d g.cn _ GD.out.dice (by omega) (by omega)).mono ?_; rintro e w2 ⟨y, hy, rfl, ht, -⟩; exact ⟨⟨y, by omega⟩, rfl, fun h => went_thrown h ht, trivial⟩)
    rintro ⟨y, hy⟩
    rw [tyNum_f]
    go_simp
    apply wpRel_cons (t := tyPtr _ g.cn hf b o)
    case h1 => (intro w' hl hd; have gd := (hl GW.out).good; have GD := Lib.hid gd; have HV' := Lib.hid (HV.out.keep ((H1.out.trans (went_drewN H1.out.good 1)).trans (hl GW.out)).but); clear gd hd hl; unfold relAt; go_simp; exact ⟨LeM.refl g _, ⟨y, hy⟩, rfl, trivial⟩)
    rintro ⟨yp, hyp⟩
    rw [tyPtr_f]
    go_simp
    apply wpRel_cons (t := tyD _ (qNm g))
    case h1 => (intro w' hl hd; have gd := (hl GW.out).good; have GD := Lib.hid gd; have HV' := Lib.hid (HV.out.keep ((H1.out.trans (went_drewN H1.out.good 1)).trans (hl GW.out)).but); clear gd hd hl; obtain ⟨s, hc, hs⟩ := vars_at GD.out.consts HPP.out hyp; unfold relAt; go_simp; exact ⟨LeM.refl g _, ⟨s, hs⟩, rfl, trivial⟩)
    rintro ⟨s1, qs1⟩
    rw [tyD_f]
    go_simp
    have zs1 := ((qNm g)).le s1 qs1; simp only [Qd.cat_B, Qd.lit_B, qNm_B, qSz_B, lit_size, List.size_toArray, List.length_cons, List.length_nil] at zs1
    apply wpRel_cons (t := tyD _ (qNm g))
    case h1 => (intro w' hl hd; have gd := (hl GW.out).good; have GD := Lib.hid gd; have HV' := Lib.hid (HV.out.keep ((H1.out.trans (went_drewN H1.out.good 1)).trans (hl GW.out)).but); clear gd hd hl; unfold relAt; go_simp; exact ⟨LeM.refl g _, ⟨_, qs1⟩, rfl, trivial⟩)
    rintro ⟨s2, qs2⟩
    rw [tyD_f]
    go_simp
    have zs2 := ((qNm g)).le s2 qs2; simp only [Qd.cat_B, Qd.lit_B, qNm_B, qSz_B, lit_size, List.size_toArray, List.length_cons, List.length_nil] at zs2
    apply wpRel_nil (Ts := [])
    intro w' hl _
    have H2 := Lib.hid ((H1.out.trans (went_drewN H1.out.good 1)).trans (hl GW.out))
    clear hl
    go_wp2_with fail
    go_ret
    exact ⟨_, ⟨by first | omega | (simp [ByteArray.size_append, lit_size]; omega), g.Φ.s_up (g.Φ.s_a (g.Φ.a_n qs2.2)) (by omega)⟩, rfl, H2.out⟩
   ·have hf0 : g.cn = 0 := by omega
    rw [hf0] at c2
    go_wp2_with fail
    refine (int0_any l g 0 p n cap _ (by omega) (by omega) H1.out.good (HV.out.keep H1.out.but) (by omega)).mono ?_
    rintro e w2 ⟨z, ⟨zz, qz⟩, rfl, ht⟩
    have H2 := Lib.hid (H1.out.trans ht)
    have Qz := Lib.hid qz
    clear ht qz
    go_wp2_with fail
    go_ret
    exact ⟨_, ⟨by first | omega | (simp [ByteArray.size_append, lit_size]; omega), g.Φ.s_up (Qz.out) (by omega)⟩, rfl, H2.out⟩
  ·have _ := hk
   by_cases hf : 0 < g.mn
   ·have hf2 : (0 : Int) < (g.mn : Int) := by omega
    obtain ⟨b, o, _, hpp, _, _⟩ := H1.out.good.macros.1 0 hf
    have HPP := Lib.hid hpp
    go_wp2_with fail
    have GW := Lib.hid (went_drewN H1.out.good 1).good
    apply wp_region_rel (LeM.refl g) (LeM.trans g)
    case hm => kernel_rfl
    case hB => kernel_rfl
    apply wpRel_cons (t := tyIs _ _)
    case h1 => (intro w' hl hd; have gd := (hl GW.out).good; have q0 := gd.c0; have q1 := gd.c1; have q2 := gd.c2; have q3 := gd.c3; clear gd hd hl; unfold relAt; go_simp; exact rel_is (LeM.refl g))
    intro _
    rw [tyIs_f]
    go_simp
    apply wpRel_cons (t := tyIs _ _)
    case h1 => (intro w' hl hd; have gd := (hl GW.out).good; have q0 := gd.c0; have q1 := gd.c1; have q2 := gd.c2; have q3 := gd.c3; clear gd hd hl; unfold relAt; go_simp; exact rel_is (LeM.refl g))
    intro _
    rw [tyIs_f]
    go_simp
    apply wpRel_cons (t := tyIs _ _)
    case h1 => (intro w' hl hd; have gd := (hl GW.out).good; have q0 := gd.c0; have q1 := gd.c1; have q2 := gd.c2; have q3 := gd.c3; clear gd hd hl; unfold relAt; go_simp; exact rel_is (LeM.refl g))
    intro _
    rw [tyIs_f]
    go_simp
    apply wpRel_cons (t := tyIs _ _)
    case h1 => (intro w' hl hd; have gd := (hl GW.out).good; have q0 := gd.c0; have q1 := gd.c1; have q2 := gd.c2; have q3 := gd.c3; clear gd hd hl; unfold relAt; go_simp; exact rel_is (LeM.refl g))
    intro _
    rw [tyIs_f]
    go_simp
    apply wpRel_cons (t := tyIs _ _)
    case h1 => (intro w' hl hd; have gd := (hl GW.out).good; have q0 := gd.c0; have q1 := gd.c1; have q2 := gd.c2; have q3 := gd.c3; clear gd hd hl; unfold relAt; go_simp; exact rel_is (LeM.refl g))
    intro _
    rw [tyIs_f]
    go_simp
    apply wpRel_cons (t := tyIs _ _)
    case h1 => (intro w' hl hd; have gd := (hl GW.out).good; have q0 := gd.c0; have q1 := gd.c1; have q2 := gd.c2; have q3 := gd.c3; clear gd hd hl; unfold relAt; go_simp; exact rel_is (LeM.refl g))
    intro _
    rw [tyIs_f]
    go_simp
    apply wpRel_cons (t := tyIs _ _)
    case h1 => (intro w' hl hd; have gd := (hl GW.out).good; have q0 := gd.c0; have q1 := gd.c1; have q2 := gd.c2; have q3 := gd.c3; clear gd hd hl; unfold relAt; go_simp; exact rel_is (LeM.refl g))
    intro _
    rw [tyIs_f]
    go_simp
    apply wpRel_cons (t := tyIs _ _)
    case h1 => (intro w' hl hd; have gd := (hl GW.out).good; have q0 := gd.c0; have q1 := gd.c1; have q2 := gd.c2; have q3 := gd.c3; clear gd hd hl; unfold relAt; go_simp; exact rel_is (LeM.refl g))
    intro _
    rw [tyIs_f]
    go_simp
    apply wpRel_cons (t := tyIs _ _)
    case h1 => (intro w' hl hd; have gd := (hl GW.out).good; have q0 := gd.c0; have q1 := gd.c1; have q2 := gd.c2; have q3 := gd.c3; clear gd hd hl; unfold relAt; go_simp; exact rel_is (LeM.refl g))
    intro _
    rw [tyIs_f]
    go_simp
    apply wpRel_cons (t := tyIs _ _)
    case h1 => (intro w' hl hd; have gd := (hl GW.out).good; have q0 := gd.c0; have q1 := gd.c1; have q2 := gd.c2; have q3 := gd.c3; clear gd hd hl; unfold relAt; go_simp; exact rel_is (LeM.refl g))
    intro _
    rw [tyIs_f]
    go_simp
    apply wpRel_cons (t := tyNum _ g.mn hf)
    case h1 => (intro w' hl hd; have gd := (hl GW.out).good; have GD := Lib.hid gd; have HV' := Lib.hid (HV.out.keep ((H1.out.trans (went_drewN H1.out.good 1)).trans (hl GW.out)).but); clear gd hd hl; unfold relAt; go_simp; refine ⟨LeM.refl g _, ?_⟩; refine (nextI_any g.d g.mn _ GD.out.dice (by omega) (by omega)).mono ?_; rintro e w2 ⟨y, hy, rfl, ht, -⟩; exact ⟨⟨y, by omega⟩, rfl, fun h => went_thrown h ht, trivial⟩)
    rintro ⟨y, hy⟩
    rw [tyNum_f]
    go_simp
    apply wpRel_cons (t := tyPtr _ g.mn hf b o)
    case h1 => (intro w' hl hd; have gd := (hl GW.out).good; have GD := Lib.hid gd; have HV' := Lib.hid (HV.out.keep ((H1.out.trans (went_drewN H1.out.good 1)).trans (hl GW.out)).but); clear gd hd hl; unfold relAt; go_simp; exact ⟨LeM.refl g _, ⟨y, hy⟩, rfl, trivial⟩)
    rintro ⟨yp, hyp⟩
    rw [tyPtr_f]
    go_simp
    apply wpRel_cons (t := tyD _ (qNm g))
    case h1 => (intro w' hl hd; have gd := (hl GW.out).good; have GD := Lib.hid gd; have HV' := Lib.hid (HV.out.keep ((H1.out.trans (went_drewN H1.out.good 1)).trans (hl GW.out)).but); clear gd hd hl; obtain ⟨s, hc, hs⟩ := vars_at GD.out.macros HPP.out hyp; unfold relAt; go_simp; exact ⟨LeM.refl g _, ⟨s, hs⟩, rfl, trivial⟩)
    rintro ⟨s1, qs1⟩
    rw [tyD_f]
    go_simp
    have zs1 := ((qNm g)).le s1 qs1; simp only [Qd.cat_B, Qd.lit_B, qNm_B, qSz_B, lit_size, List.size_toArray, List.length_cons, List.length_nil] at zs1
    apply wpRel_cons (t := tyD _ (Qd.cat (qNm g) (Qd.lit ⟨#[33, 40]⟩)))
    case h1 => (intro w' hl hd; have gd := (hl GW.out).good; have GD := Lib.hid gd; have HV' := Lib.hid (HV.out.keep ((H1.out.trans (went_drewN H1.out.good 1)).trans (hl GW.out)).but); clear gd hd hl; unfold relAt; go_simp; rw [if_neg (by first | omega | (simp only [lit_size, List.size_toArray, List.length_cons, List.length_nil]; omega))]; exact ⟨LeM.refl g _, ⟨_, Qd.cat_mk qs1 (Qd.lit_mk _)⟩, rfl, trivial⟩)
    rintro ⟨s2, qs2⟩
    rw [tyD_f]
    go_simp
    have zs2 := ((Qd.cat (qNm g) (Qd.lit ⟨#[33, 40]⟩))).le s2 qs2; simp only [Qd.cat_B, Qd.lit_B, qNm_B, qSz_B, lit_size, List.size_toArray, List.length_cons, List.length_nil] at zs2
    apply wpRel_cons (t := tyIs _ _)
    case h1 => (intro w' hl hd; have gd := (hl GW.out).good; have q0 := gd.c0; have q1 := gd.c1; have q2 := gd.c2; have q3 := gd.c3; clear gd hd hl; unfold relAt; go_simp; exact rel_is (LeM.refl g))
    intro _
    rw [tyIs_f]
    go_simp
    apply wpRel_cons (t := tyIs _ _)
    case h1 => (intro w' hl hd; have gd := (hl GW.out).good; have q0 := gd.c0; have q1 := gd.c1; have q2 := gd.c2; have q3 := gd.c3; clear gd hd hl; unfold relAt; go_simp; exact rel_is (LeM.refl g))
    intro _
    rw [tyIs_f]
    go_simp
    apply wpRel_cons (t := tyIs _ _)
    case h1 => (intro w' hl hd; have gd := (hl GW.out).good; have q0 := gd.c0; have q1 := gd.c1; have q2 := gd.c2; have q3 := gd.c3; clear gd hd hl; unfold relAt; go_simp; exact rel_is (LeM.refl g))
    intro _
    rw [tyIs_f]
    go_simp
    apply wpRel_cons (t := tyIs _ _)
    case h1 => (intro w' hl hd; have gd := (hl GW.out).good; have q0 := gd.c0; have q1 := gd.c1; have q2 := gd.c2; have q3 := gd.c3; clear gd hd hl; unfold relAt; go_simp; exact rel_is (LeM.refl g))
    intro _
    rw [tyIs_f]
    go_simp
    apply wpRel_cons (t := tyD _ (qSz g BI l b0))
    case h1 => (intro w' hl hd; have gd := (hl GW.out).good; have GD := Lib.hid gd; have HV' := Lib.hid (HV.out.keep ((H1.out.trans (went_drewN H1.out.good 1)).trans (hl GW.out)).but); clear gd hd hl; unfold relAt; go_simp; refine ⟨LeM.refl g _, ?_⟩; refine (hI g (k - 1) p n cap _ (by omega) (by omega) GD.out HV'.out (by omega)).mono ?_; rintro e w2 ⟨s3, zs3, rfl, ht⟩; exact ⟨⟨s3, zs3⟩, rfl, fun _ => ht, trivial⟩)
    rintro ⟨s3, qs3⟩
    rw [tyD_f]
    go_simp
    have zs3 := ((qSz g BI l b0)).le s3 qs3; simp only [Qd.cat_B, Qd.lit_B, qNm_B, qSz_B, lit_size, List.size_toArray, List.length_cons, List.length_nil] at zs3
    apply wpRel_cons (t := tyD _ (Qd.cat (Qd.cat (qNm g) (Qd.lit ⟨#[33, 40]⟩)) (qSz g BI l b0)))
    case h1 => (intro w' hl hd; have gd := (hl GW.out).good; have GD := Lib.hid gd; have HV' := Lib.hid (HV.out.keep ((H1.out.trans (went_drewN H1.out.good 1)).trans (hl GW.out)).but); clear gd hd hl; unfold relAt; go_simp; rw [if_neg (by first | omega | (simp only [lit_size, List.size_toArray, List.length_cons, List.length_nil]; omega))]; exact ⟨LeM.refl g _, ⟨_, Qd.cat_mk qs2 qs3⟩, rfl, trivial⟩)
    rintro ⟨s4, qs4⟩
    rw [tyD_f]
    go_simp
    have zs4 := ((Qd.cat (Qd.cat (qNm g) (Qd.lit ⟨#[33, 40]⟩)) (qSz g BI l b0))).le s4 qs4; simp only [Qd.cat_B, Qd.lit_B, qNm_B, qSz_B, lit_size, List.size_toArray, List.length_cons, List.length_nil] at zs4
    apply wpRel_cons (t := tyD _ (Qd.cat (Qd.cat (Qd.cat (qNm g) (Qd.lit ⟨#[33, 40]⟩)) (qSz g BI l b0)) (Qd.lit ⟨#[41]⟩)))
    case h1 => (intro w' hl hd; have gd := (hl GW.out).good; have GD := Lib.hid gd; have HV' := Lib.hid (HV.out.keep ((H1.out.trans (went_drewN H1.out.good 1)).trans (hl GW.out)).but); clear gd hd hl; unfold relAt; go_simp; rw [if_neg (by first | omega | (simp only [lit_size, List.size_toArray, List.length_cons, List.length_nil]; omega))]; exact ⟨LeM.refl g _, ⟨_, Qd.cat_mk qs4 (Qd.lit_mk _)⟩, rfl, trivial⟩)
    rintro ⟨s5, qs5⟩
    rw [tyD_f]
    go_simp
    have zs5 := ((Qd.cat (Qd.cat (Qd.cat (qNm g) (Qd.lit ⟨#[33, 40]⟩)) (qSz g BI l b0)) (Qd.lit ⟨#[41]⟩))).le s5 qs5; simp only [Qd.cat_B, Qd.lit_B, qNm_B, qSz_B, lit_size, List.size_toArray, List.length_cons, List.length_nil] at zs5
    apply wpRel_cons (t := tyD _ (Qd.cat (Qd.cat (Qd.cat (qNm g) (Qd.lit ⟨#[33, 40]⟩)) (qSz g BI l b0)) (Qd.lit ⟨#[41]⟩)))
    case h1 => (intro w' hl hd; have gd := (hl GW.out).good; have GD := Lib.hid gd; have HV' := Lib.hid (HV.out.keep ((H1.out.trans (went_drewN H1.out.good 1)).trans (hl GW.out)).but); clear gd hd hl; unfold relAt; go_simp; exact ⟨LeM.refl g _, ⟨_, qs5⟩, rfl, trivial⟩)
    rintro ⟨s6, qs6⟩
    rw [tyD_f]
    go_simp
    have zs6 := ((Qd.cat (Qd.cat (Qd.cat (qNm g) (Qd.lit ⟨#[33, 40]⟩)) (qSz g BI l b0)) (Qd.lit ⟨#[41]⟩))).le s6 qs6; simp only [Qd.cat_B, Qd.lit_B, qNm_B, qSz_B, lit_size, List.size_toArray, List.length_cons, List.length_nil] at zs6
    apply wpRel_nil (Ts := [])
    intro w' hl _
    have H2 := Lib.hid ((H1.out.trans (went_drewN H1.out.good 1)).trans (hl GW.out))
    clear hl
    obtain ⟨_, _, ⟨_, _, ⟨_, _, h1, rfl, rfl⟩, h3, rfl⟩, rfl, rfl⟩ := qs6
    go_wp2_with fail
    go_ret
    exact ⟨_, ⟨by first | omega | (simp [ByteArray.size_append, lit_size]; omega), g.Φ.s_up (g.Φ.s_mac h1.2 h3.2) (by omega)⟩, rfl, H2.out⟩
   ·have hf0 : g.mn = 0 := by omega
    rw [hf0] at c3
    go_wp2_with fail
    refine (int0_any l g 0 p n cap _ (by omega) (by omega) H1.out.good (HV.out.keep H1.out.but) (by omega)).mono ?_
    rintro e w2 ⟨z, ⟨zz, qz⟩, rfl, ht⟩
    have H2 := Lib.hid (H1.out.trans ht)
    have Qz := Lib.hid qz
    clear ht qz
    go_wp2_with fail
    go_ret
    exact ⟨_, ⟨by first | omega | (simp [ByteArray.size_append, lit_size]; omega), g.Φ.s_up (Qz.out) (by omega)⟩, rfl, H2.out⟩
  ·have _ := hk
   obtain hr | hr : g.records = true ∨ g.records = false := by cases g.records <;> simp
   ·rw [hr] at c4
    go_wp2_with fail
    refine (hI g (k - 1) p n cap _ (by omega) (by omega) H1.out.good (HV.out.keep H1.out.but) (by omega)).mono ?_
    rintro e w2 ⟨s, ⟨zs, qs⟩, rfl, ht⟩
    have H2 := Lib.hid (H1.out.trans ht)
    have Qs := Lib.hid qs
    clear ht qs
    go_wp2_with fail
    refine (int0_any l g 0 p n cap _ (by omega) (by omega) H2.out.good (HV.out.keep H2.out.but) (by omega)).mono ?_
    rintro e w3 ⟨t, ⟨zt, qt⟩, rfl, ht⟩
    have H3 := Lib.hid (H2.out.trans ht)
    have Qt := Lib.hid qt
    clear ht qt
    go_wp2_with fail
    refine (ofS_any XyP g.d 2 _ _ _ _ (went_alloc H3.out.good _).good.dice (by omega) (by omega) (strs_two xy_1 xy_2 _ _) (away_new H3.out.good.dice)).mono ?_
    rintro e w4 ⟨u, ⟨zu, qu⟩, rfl, ht⟩
    have Qu := Lib.hid qu
    clear qu
    have H4 := Lib.hid ((H3.out.trans (went_alloc H3.out.good _)).trans (went_thrown (went_alloc H3.out.good _).good ht))
    clear ht
    go_wp2_with fail
    go_ret
    exact ⟨_, ⟨by first | omega | (simp [ByteArray.size_append, lit_size]; omega), g.Φ.s_up (g.Φ.s_new Qs.out Qt.out Qu.out) (by omega)⟩, rfl, H4.out⟩
   ·rw [hr] at c4
    go_wp2_with fail
    refine (int0_any l g 0 p n cap _ (by omega) (by omega) H1.out.good (HV.out.keep H1.out.but) (by omega)).mono ?_
    rintro e w2 ⟨z, ⟨zz, qz⟩, rfl, ht⟩
    have H2 := Lib.hid (H1.out.trans ht)
    have Qz := Lib.hid qz
    clear ht qz
    go_wp2_with fail
    go_ret
    exact ⟨_, ⟨by first | omega | (simp [ByteArray.size_append, lit_size]; omega), g.Φ.s_up (Qz.out) (by omega)⟩, rfl, H2.out⟩
  ·have _ := hk
   obtain hr | hr : g.records = true ∨ g.records = false := by cases g.records <;> simp
   ·rw [hr] at c4
    go_wp2_with fail
    refine (hI g (k - 1) p n cap _ (by omega) (by omega) H1.out.good (HV.out.keep H1.out.but) (by omega)).mono ?_
    rintro e w2 ⟨s, ⟨zs, qs⟩, rfl, ht⟩
    have H2 := Lib.hid (H1.out.trans ht)
    have Qs := Lib.hid qs
    clear ht qs
    go_wp2_with fail
    go_ret
    exact ⟨_, ⟨by first | omega | (simp [ByteArray.size_append, lit_size]; omega), g.Φ.s_up (g.Φ.s_box Qs.out) (by omega)⟩, rfl, H2.out⟩
   ·rw [hr] at c4
    go_wp2_with fail
    refine (int0_any l g 0 p n cap _ (by omega) (by omega) H1.out.good (HV.out.keep H1.out.but) (by omega)).mono ?_
    rintro e w2 ⟨z, ⟨zz, qz⟩, rfl, ht⟩
    have H2 := Lib.hid (H1.out.trans ht)
    have Qz := Lib.hid qz
    clear ht qz
    go_wp2_with fail
    go_ret
    exact ⟨_, ⟨by first | omega | (simp [ByteArray.size_append, lit_size]; omega), g.Φ.s_up (Qz.out) (by omega)⟩, rfl, H2.out⟩
  ·have _ := hk
   obtain hr | hr : g.shows = true ∨ g.shows = false := by cases g.shows <;> simp
   ·rw [hr] at c5
    go_wp2_with fail
    refine (hS g (k - 1) p n cap _ (by omega) (by omega) H1.out.good (HV.out.keep H1.out.but) (by omega)).mono ?_
    rintro e w2 ⟨s, ⟨zs, qs⟩, rfl, ht⟩
    have H2 := Lib.hid (H1.out.trans ht)
    have Qs := Lib.hid qs
    clear ht qs
    go_wp2_with fail
    go_ret
    exact ⟨_, ⟨by first | omega | (simp [ByteArray.size_append, lit_size]; omega), g.Φ.s_up (g.Φ.s_show Qs.out) (by omega)⟩, rfl, H2.out⟩
   ·rw [hr] at c5
    go_wp2_with fail
    refine (int0_any l g 0 p n cap _ (by omega) (by omega) H1.out.good (HV.out.keep H1.out.but) (by omega)).mono ?_
    rintro e w2 ⟨z, ⟨zz, qz⟩, rfl, ht⟩
    have H2 := Lib.hid (H1.out.trans ht)
    have Qz := Lib.hid qz
    clear ht qz
    go_wp2_with fail
    go_ret
    exact ⟨_, ⟨by first | omega | (simp [ByteArray.size_append, lit_size]; omega), g.Φ.s_up (Qz.out) (by omega)⟩, rfl, H2.out⟩
  ·have _ := hk
   obtain hr | hr : g.shows = true ∨ g.shows = false := by cases g.shows <;> simp
   ·rw [hr] at c5
    go_wp2_with fail
    refine (hS g (k - 1) p n cap _ (by omega) (by omega) H1.out.good (HV.out.keep H1.out.but) (by omega)).mono ?_
    rintro e w2 ⟨s, ⟨zs, qs⟩, rfl, ht⟩
    have H2 := Lib.hid (H1.out.trans ht)
    have Qs := Lib.hid qs
    clear ht qs
    go_wp2_with fail
    go_ret
    exact ⟨_, ⟨by first | omega | (simp [ByteArray.size_append, lit_size]; omega), g.Φ.s_up (g.Φ.s_show Qs.out) (by omega)⟩, rfl, H2.out⟩
   ·rw [hr] at c5
    go_wp2_with fail
    refine (int0_any l g 0 p n cap _ (by omega) (by omega) H1.out.good (HV.out.keep H1.out.but) (by omega)).mono ?_
    rintro e w2 ⟨z, ⟨zz, qz⟩, rfl, ht⟩
    have H2 := Lib.hid (H1.out.trans ht)
    have Qz := Lib.hid qz
    clear ht qz
    go_wp2_with fail
    go_ret
    exact ⟨_, ⟨by first | omega | (simp [ByteArray.size_append, lit_size]; omega), g.Φ.s_up (Qz.out) (by omega)⟩, rfl, H2.out⟩
  ·have _ := hk
   go_wp2_with fail
   refine (int0_atom g 0 p n cap _ (by omega) (by omega) H1.out.good (HV.out.keep H1.out.but) (by omega)).mono ?_
   rintro e w2 ⟨z, ⟨zz, qz⟩, rfl, ht⟩
   have H2 := Lib.hid (H1.out.trans ht)
   have Qz := Lib.hid qz
   clear ht qz
   go_wp2_with fail
   go_ret
   exact ⟨_, ⟨by first | omega | (simp [ByteArray.size_append, lit_size]; omega), g.Φ.s_up (g.Φ.s_neg Qz.out) (by omega)⟩, rfl, H2.out⟩
  ·have _ := hk
   go_wp2_with fail
   refine (int0_any l g 0 p n cap _ (by omega) (by omega) H1.out.good (HV.out.keep H1.out.but) (by omega)).mono ?_
   rintro e w2 ⟨z, ⟨zz, qz⟩, rfl, ht⟩
   have H2 := Lib.hid (H1.out.trans ht)
   have Qz := Lib.hid qz
   clear ht qz
   go_wp2_with fail
   go_ret
   exact ⟨_, ⟨by first | omega | (simp [ByteArray.size_append, lit_size]; omega), g.Φ.s_up (Qz.out) (by omega)⟩, rfl, H2.out⟩
 ·exact (int0_any (l + 3) g k p n cap w (by omega) hk2 H0.out.good HV.out (by omega)).mono fun e w1 ⟨s, h1, h2, h3⟩ => ⟨s, ⟨by have := h1.1; omega, h1.2⟩, h2, h3⟩
end Go.Proofs.YtheigpiffdabnaaGreat
namespace Go.Proofs.YtheigpiffdabnaaGreat
open Go Go.RowKit
/-- the slice lies in a block from base on, and reads as T -/
def OwnT (w : World) (base : Nat) (v : Value) (T : List ByteArray) : Prop := w.ownsRow base 9 1 v T.length (T.map Value.string)
theorem infoString : (Tryz.prog.info? 9).map (fun i => (i.zero, i.size, i.bytes)) = some (some (.string ⟨#[]⟩), 1, 16) := by kernel_rfl
theorem OwnT.nil (w : World) (base : Nat) : OwnT w base (.slice none 0 0) [] := ⟨rfl, Or.inl ⟨rfl, rfl⟩⟩
theorem OwnT.cells {w : World} {base : Nat} {v : Value} {T : List ByteArray} (h : OwnT w base v T) : ∃ p cap, v = .slice p T.length cap ∧ ∀ i (hi : i < T.length), ∃ g, p = some ⟨g, 0, none⟩ ∧ base ≤ g ∧ w.cell? ⟨g, i, none⟩ = some (.string T[i]) := by
 obtain ⟨hl, h | ⟨g, cap, cur, hv, hg, hh, hn, hc, hs, ht⟩⟩ := h
 ·obtain ⟨rfl, h0⟩ := h
  have e : T = [] := by simpa using h0
  subst e
  exact ⟨none, 0, rfl, fun i hi => by simp at hi⟩
 ·refine ⟨_, cap, hv, fun i hi => ⟨g, rfl, hg, ?_⟩⟩
  rw [cell_of_row _ g i _ _ _ hh]
  have : (cur.toList.take (T.length * 1))[i]? = some (.string T[i]) := by rw [ht]; simp [hi]
  rw [List.getElem?_take] at this
  split at this
  ·simpa using this
  ·exact absurd this (by simp)
theorem OwnT.keep {M : Addr → Prop} {w w' : World} {base : Nat} {v : Value} {T : List ByteArray} (h : OwnT w base v T) (hb : But M w w') (hm : ∀ a, M a → a.block < base) : OwnT w' base v T := by
 obtain ⟨hl, h | ⟨g, cap, cur, hv, hg, hh, hn, hc, hs, ht⟩⟩ := h
 ·exact ⟨hl, Or.inl h⟩
 ·refine ⟨hl, Or.inr ⟨g, cap, cur, hv, hg, ?_, hn, hc, hs, ht⟩⟩
  rw [hb.block g (Array.getElem?_eq_some_iff.1 hh).1 (fun a ha q => by have := hm a q; omega)]
  exact hh
theorem wpList_appendT {ops : Array Oper} {rest : List Oper} {o : Oper} {a : Act} {Q : Exit → Act → World → Prop} {w : World} (hgd : o.guard = none) (s x : Operand)
  (ho : o.op = .call { callee := .builtin .append, args := #[s, x], argTypes := #[34, 34] })
  (base : Nat) (v : Value) (T : List ByteArray) (hs : a.eval s = v) (hown : OwnT w base v T)
  (ad : Addr) (m c : Nat) (news : List ByteArray) (hx : a.eval x = .slice (some ad) m c) (hl : news.length = m) (hnews : ∀ j (hj : j < news.length), w.cell? (ad.add j) = some (.string news[j]))
  (h63 : T.length + m ≤ 1000000) (hbase : base ≤ w.heap.size)
  (h : ∀ v' w', OwnT w' base v' (T ++ news) → w.grownBy w' v.ownBlock → wpList Tryz.prog ops Q rest (a.put o.dst v') w') : wpList Tryz.prog ops Q (o :: rest) a w := by
 obtain ⟨i, hi, hz, h1, h2⟩ := info_parts infoString
 refine wpList_append_own _ hgd s x 34 ho base 9 i _ 1 16 Tryz.underlying34 hi hz h1 h2 rfl (by omega) v T.length (T.map Value.string) hs hown ad m c (news.map Value.string) hx (by simpa using hl) ?_ ?_ ?_ ?_ hbase ?_
 ·intro j u hj
  rw [List.getElem?_map] at hj
  cases hn : news[j]? with
  | none => rw [hn] at hj; cases hj
  | some y =>
   rw [hn] at hj
   have hj := Option.some.inj hj
   subst hj
   obtain ⟨hlt, he⟩ := List.getElem?_eq_some_iff.1 hn
   rw [hnews j hlt, he]
 ·intro u hu
  obtain ⟨y, _, rfl⟩ := List.mem_map.1 hu
  rfl
 ·unfold maxLen; omega
 ·omega
 ·intro v' w' h3 h4 _
  refine h v' w' ?_ h4
  unfold OwnT
  rw [List.map_append, List.length_append, hl]
  exact h3
end Go.Proofs.YtheigpiffdabnaaGreat
