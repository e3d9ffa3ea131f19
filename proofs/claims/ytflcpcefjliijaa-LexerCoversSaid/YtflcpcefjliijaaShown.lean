/-
  CONTRACTS: expressions with Show, and of type bool: from those of less depth.
-/
import Derived.Test.YtflcpcefjliijaaMade
namespace Go.Proofs.Ytflcpcefjliijaa
open Go Go.RowKit
set_option linter.unusedVariables false

theorem lit_size (a : Array UInt8) : (⟨a⟩ : ByteArray).size = a.size := rfl
theorem away_new {d : Dice} {w : World} (h : DiceAt d w) : w.heap.size ≠ d.D := by have := World.block_lt_of_cell? w _ h.row; simp at this; omega
theorem shorts_two (a b : ByteArray) (ha : a.size ≤ 8) (hb : b.size ≤ 8) (t : TypeId) (w : World) : Shorts 8 (w.alloc (.cells #[.string a, .string b] t)) (some ⟨w.heap.size, 0, none⟩) 2 := by
  intro i hi
  refine ⟨w.heap.size, 0, if i = 0 then a else b, rfl, ?_, by split <;> assumption⟩
  rcases (by omega : i = 0 ∨ i = 1) with rfl | rfl <;> simp

set_option maxRecDepth 1000000 in
set_option maxHeartbeats 1000000 in
theorem shown_step (dep : Int) (hd : dep ≤ 100) (BI BS R : Nat) (b1 : BI ≤ 10000) (b2 : BS ≤ 10000) (hI : MakesAt 62 (-1) (dep - 1) BI) (hS : 0 < dep → MakesAt 81 0 (dep - 1) BS) (r1 : 18 ≤ R) (r2 : BS + 9 ≤ R) (r3 : BI ≤ R) : MakesAt 81 0 dep R := by
  intro g k p n cap w hk hk2 hg hv hn
  have H0 := Lib.hid (Went.refl hg)
  have HV := Lib.hid hv
  have c0 := hg.c0
  have c4 := hg.c4
  clear hg hv
  unfold Makes
  have e1 : IntKind.i64.wrap (k - 1) = k - 1 := IntWalk.i64_in _ (by omega)
  obtain hr | hr : g.records = true ∨ g.records = false := by cases g.records <;> simp
  · rw [hr] at c4
    by_cases hp : 0 < k
    · have hS := hS (by omega)
      go_enter Try.func81, Try.ntmps81
      go_wp2_with fail
      refine (nextI_any g.d 4 _ H0.out.good.dice (by omega) (by omega)).mono ?_
      rintro e w1 ⟨x, hx, rfl, ht, -⟩
      have H1 := Lib.hid (H0.out.trans (went_thrown H0.out.good ht))
      clear ht
      rcases (by omega : x = 0 ∨ x = 1 ∨ x = 2 ∨ x = 3) with rfl | rfl | rfl | rfl
      · have _ := hk
        go_wp2_with fail
        refine (int0_any g 0 p n cap _ (by omega) (by omega) H1.out.good (HV.out.keep H1.out.but) (by omega)).mono ?_
        rintro e w2 ⟨s, zs, rfl, ht⟩
        have H2 := Lib.hid (H1.out.trans ht)
        clear ht
        go_wp2_with fail
        go_ret
        exact ⟨_, by first | omega | (simp [ByteArray.size_append, lit_size]; omega), rfl, H2.out⟩
      · have _ := hk
        go_wp2_with fail
        refine (hS g (k - 1) p n cap _ (by omega) (by omega) H1.out.good (HV.out.keep H1.out.but) (by omega)).mono ?_
        rintro e w2 ⟨s, zs, rfl, ht⟩
        have H2 := Lib.hid (H1.out.trans ht)
        clear ht
        go_wp2_with fail
        go_ret
        exact ⟨_, by first | omega | (simp [ByteArray.size_append, lit_size]; omega), rfl, H2.out⟩
      · have _ := hk
        go_wp2_with fail
        refine (hI g (k - 1) p n cap _ (by omega) (by omega) H1.out.good (HV.out.keep H1.out.but) (by omega)).mono ?_
        rintro e w2 ⟨s, zs, rfl, ht⟩
        have H2 := Lib.hid (H1.out.trans ht)
        clear ht
        go_wp2_with fail
        go_ret
        exact ⟨_, by first | omega | (simp [ByteArray.size_append, lit_size]; omega), rfl, H2.out⟩
      · have _ := hk
        go_wp2_with fail
        refine (hI g (k - 1) p n cap _ (by omega) (by omega) H1.out.good (HV.out.keep H1.out.but) (by omega)).mono ?_
        rintro e w2 ⟨s, zs, rfl, ht⟩
        have H2 := Lib.hid (H1.out.trans ht)
        clear ht
        go_wp2_with fail
        go_ret
        exact ⟨_, by first | omega | (simp [ByteArray.size_append, lit_size]; omega), rfl, H2.out⟩
    · have _ := hk
      go_enter Try.func81, Try.ntmps81
      go_wp2_with fail
      refine (hI g (k - 1) p n cap _ (by omega) (by omega) H0.out.good (HV.out.keep H0.out.but) (by omega)).mono ?_
      rintro e w1 ⟨s, zs, rfl, ht⟩
      have H1 := Lib.hid (H0.out.trans ht)
      clear ht
      go_wp2_with fail
      go_ret
      exact ⟨_, by first | omega | (simp [ByteArray.size_append, lit_size]; omega), rfl, H1.out⟩
  · rw [hr] at c4
    go_enter Try.func81, Try.ntmps81
    go_wp2_with fail
    refine (hI g (k - 1) p n cap _ (by omega) (by omega) H0.out.good (HV.out.keep H0.out.but) (by omega)).mono ?_
    rintro e w1 ⟨s, zs, rfl, ht⟩
    have H1 := Lib.hid (H0.out.trans ht)
    clear ht
    go_wp2_with fail
    go_ret
    exact ⟨_, by first | omega | (simp [ByteArray.size_append, lit_size]; omega), rfl, H1.out⟩

set_option maxRecDepth 1000000 in
set_option maxHeartbeats 1000000 in
theorem bool_step (dep : Int) (hd : dep ≤ 100) (BI BB R : Nat) (b1 : BI ≤ 10000) (b2 : BB ≤ 10000) (hI : MakesAt 62 (-1) (dep - 1) BI) (hB : 0 < dep → MakesAt 80 0 (dep - 1) BB) (r1 : 15 ≤ R) (r2 : BB + 16 ≤ R) (r3 : BI + 18 ≤ R) : MakesAt 80 0 dep R := by
  intro g k p n cap w hk hk2 hg hv hn
  have H0 := Lib.hid (Went.refl hg)
  have HV := Lib.hid hv
  have c0 := hg.c0
  have c4 := hg.c4
  clear hg hv
  unfold Makes
  have e1 : IntKind.i64.wrap (k - 1) = k - 1 := IntWalk.i64_in _ (by omega)
  by_cases hp : 0 < k
  · have hB := hB (by omega)
    go_enter Try.func80, Try.ntmps80
    go_wp2_with fail
    refine (nextI_any g.d 5 _ H0.out.good.dice (by omega) (by omega)).mono ?_
    rintro e w1 ⟨x, hx, rfl, ht, -⟩
    have H1 := Lib.hid (H0.out.trans (went_thrown H0.out.good ht))
    clear ht
    rcases (by omega : x = 0 ∨ x = 1 ∨ x = 2 ∨ x = 3 ∨ x = 4) with rfl | rfl | rfl | rfl | rfl
    · have _ := hk
      go_wp2_with fail
      refine (int0_any g 0 p n cap _ (by omega) (by omega) H1.out.good (HV.out.keep H1.out.but) (by omega)).mono ?_
      rintro e w2 ⟨s, zs, rfl, ht⟩
      have H2 := Lib.hid (H1.out.trans ht)
      clear ht
      go_wp2_with fail
      go_ret
      exact ⟨_, by first | omega | (simp [ByteArray.size_append, lit_size]; omega), rfl, H2.out⟩
    · have _ := hk
      go_wp2_with fail
      refine (hB g (k - 1) p n cap _ (by omega) (by omega) H1.out.good (HV.out.keep H1.out.but) (by omega)).mono ?_
      rintro e w2 ⟨s, zs, rfl, ht⟩
      have H2 := Lib.hid (H1.out.trans ht)
      clear ht
      go_wp2_with fail
      refine (of_any g.d 8 2 _ _ _ _ (went_alloc H2.out.good _).good.dice (by omega) (by omega) (shorts_two _ _ (by decide) (by decide) _ _) (away_new H2.out.good.dice)).mono ?_
      rintro e w3 ⟨t, zt, rfl, ht⟩
      have H3 := Lib.hid ((H2.out.trans (went_alloc H2.out.good _)).trans (went_thrown (went_alloc H2.out.good _).good ht))
      clear ht
      go_wp2_with fail
      go_ret
      exact ⟨_, by first | omega | (simp [ByteArray.size_append, lit_size]; omega), rfl, H3.out⟩
    · have _ := hk
      go_wp2_with fail
      refine (of_any g.d 8 2 _ _ _ _ (went_alloc H1.out.good _).good.dice (by omega) (by omega) (shorts_two _ _ (by decide) (by decide) _ _) (away_new H1.out.good.dice)).mono ?_
      rintro e w2 ⟨t, zt, rfl, ht⟩
      have H2 := Lib.hid ((H1.out.trans (went_alloc H1.out.good _)).trans (went_thrown (went_alloc H1.out.good _).good ht))
      clear ht
      go_wp2_with fail
      go_ret
      exact ⟨_, by first | omega | (simp [ByteArray.size_append, lit_size]; omega), rfl, H2.out⟩
    · have _ := hk
      go_wp2_with fail
      refine (hI g (k - 1) p n cap _ (by omega) (by omega) H1.out.good (HV.out.keep H1.out.but) (by omega)).mono ?_
      rintro e w2 ⟨s, zs, rfl, ht⟩
      have H2 := Lib.hid (H1.out.trans ht)
      clear ht
      go_wp2_with fail
      refine (of_any g.d 8 2 _ _ _ _ (went_alloc H2.out.good _).good.dice (by omega) (by omega) (shorts_two _ _ (by decide) (by decide) _ _) (away_new H2.out.good.dice)).mono ?_
      rintro e w3 ⟨t, zt, rfl, ht⟩
      have H3 := Lib.hid ((H2.out.trans (went_alloc H2.out.good _)).trans (went_thrown (went_alloc H2.out.good _).good ht))
      clear ht
      go_wp2_with fail
      refine (int0_any g 0 p n cap _ (by omega) (by omega) H3.out.good (HV.out.keep H3.out.but) (by omega)).mono ?_
      rintro e w4 ⟨u, zu, rfl, ht⟩
      have H4 := Lib.hid (H3.out.trans ht)
      clear ht
      go_wp2_with fail
      go_ret
      exact ⟨_, by first | omega | (simp [ByteArray.size_append, lit_size]; omega), rfl, H4.out⟩
    · have _ := hk
      go_wp2_with fail
      refine (hI g (k - 1) p n cap _ (by omega) (by omega) H1.out.good (HV.out.keep H1.out.but) (by omega)).mono ?_
      rintro e w2 ⟨s, zs, rfl, ht⟩
      have H2 := Lib.hid (H1.out.trans ht)
      clear ht
      go_wp2_with fail
      refine (of_any g.d 8 2 _ _ _ _ (went_alloc H2.out.good _).good.dice (by omega) (by omega) (shorts_two _ _ (by decide) (by decide) _ _) (away_new H2.out.good.dice)).mono ?_
      rintro e w3 ⟨t, zt, rfl, ht⟩
      have H3 := Lib.hid ((H2.out.trans (went_alloc H2.out.good _)).trans (went_thrown (went_alloc H2.out.good _).good ht))
      clear ht
      go_wp2_with fail
      refine (int0_any g 0 p n cap _ (by omega) (by omega) H3.out.good (HV.out.keep H3.out.but) (by omega)).mono ?_
      rintro e w4 ⟨u, zu, rfl, ht⟩
      have H4 := Lib.hid (H3.out.trans ht)
      clear ht
      go_wp2_with fail
      go_ret
      exact ⟨_, by first | omega | (simp [ByteArray.size_append, lit_size]; omega), rfl, H4.out⟩
  · have _ := hk
    go_enter Try.func80, Try.ntmps80
    go_wp2_with fail
    refine (nextI_any g.d 5 _ H0.out.good.dice (by omega) (by omega)).mono ?_
    rintro e w1 ⟨x, hx, rfl, ht, -⟩
    have H1 := Lib.hid (H0.out.trans (went_thrown H0.out.good ht))
    clear ht
    rcases (by omega : x = 0 ∨ x = 1 ∨ x = 2 ∨ x = 3 ∨ x = 4) with rfl | rfl | rfl | rfl | rfl
    · have _ := hk
      go_wp2_with fail
      refine (int0_any g 0 p n cap _ (by omega) (by omega) H1.out.good (HV.out.keep H1.out.but) (by omega)).mono ?_
      rintro e w2 ⟨s, zs, rfl, ht⟩
      have H2 := Lib.hid (H1.out.trans ht)
      clear ht
      go_wp2_with fail
      go_ret
      exact ⟨_, by first | omega | (simp [ByteArray.size_append, lit_size]; omega), rfl, H2.out⟩
    · have _ := hk
      go_wp2_with fail
      refine (hI g (k - 1) p n cap _ (by omega) (by omega) H1.out.good (HV.out.keep H1.out.but) (by omega)).mono ?_
      rintro e w2 ⟨s, zs, rfl, ht⟩
      have H2 := Lib.hid (H1.out.trans ht)
      clear ht
      go_wp2_with fail
      refine (of_any g.d 8 2 _ _ _ _ (went_alloc H2.out.good _).good.dice (by omega) (by omega) (shorts_two _ _ (by decide) (by decide) _ _) (away_new H2.out.good.dice)).mono ?_
      rintro e w3 ⟨t, zt, rfl, ht⟩
      have H3 := Lib.hid ((H2.out.trans (went_alloc H2.out.good _)).trans (went_thrown (went_alloc H2.out.good _).good ht))
      clear ht
      go_wp2_with fail
      refine (int0_any g 0 p n cap _ (by omega) (by omega) H3.out.good (HV.out.keep H3.out.but) (by omega)).mono ?_
      rintro e w4 ⟨u, zu, rfl, ht⟩
      have H4 := Lib.hid (H3.out.trans ht)
      clear ht
      go_wp2_with fail
      go_ret
      exact ⟨_, by first | omega | (simp [ByteArray.size_append, lit_size]; omega), rfl, H4.out⟩
    · have _ := hk
      go_wp2_with fail
      refine (of_any g.d 8 2 _ _ _ _ (went_alloc H1.out.good _).good.dice (by omega) (by omega) (shorts_two _ _ (by decide) (by decide) _ _) (away_new H1.out.good.dice)).mono ?_
      rintro e w2 ⟨t, zt, rfl, ht⟩
      have H2 := Lib.hid ((H1.out.trans (went_alloc H1.out.good _)).trans (went_thrown (went_alloc H1.out.good _).good ht))
      clear ht
      go_wp2_with fail
      go_ret
      exact ⟨_, by first | omega | (simp [ByteArray.size_append, lit_size]; omega), rfl, H2.out⟩
    · have _ := hk
      go_wp2_with fail
      refine (hI g (k - 1) p n cap _ (by omega) (by omega) H1.out.good (HV.out.keep H1.out.but) (by omega)).mono ?_
      rintro e w2 ⟨s, zs, rfl, ht⟩
      have H2 := Lib.hid (H1.out.trans ht)
      clear ht
      go_wp2_with fail
      refine (of_any g.d 8 2 _ _ _ _ (went_alloc H2.out.good _).good.dice (by omega) (by omega) (shorts_two _ _ (by decide) (by decide) _ _) (away_new H2.out.good.dice)).mono ?_
      rintro e w3 ⟨t, zt, rfl, ht⟩
      have H3 := Lib.hid ((H2.out.trans (went_alloc H2.out.good _)).trans (went_thrown (went_alloc H2.out.good _).good ht))
      clear ht
      go_wp2_with fail
      refine (int0_any g 0 p n cap _ (by omega) (by omega) H3.out.good (HV.out.keep H3.out.but) (by omega)).mono ?_
      rintro e w4 ⟨u, zu, rfl, ht⟩
      have H4 := Lib.hid (H3.out.trans ht)
      clear ht
      go_wp2_with fail
      go_ret
      exact ⟨_, by first | omega | (simp [ByteArray.size_append, lit_size]; omega), rfl, H4.out⟩
    · have _ := hk
      go_wp2_with fail
      refine (hI g (k - 1) p n cap _ (by omega) (by omega) H1.out.good (HV.out.keep H1.out.but) (by omega)).mono ?_
      rintro e w2 ⟨s, zs, rfl, ht⟩
      have H2 := Lib.hid (H1.out.trans ht)
      clear ht
      go_wp2_with fail
      refine (of_any g.d 8 2 _ _ _ _ (went_alloc H2.out.good _).good.dice (by omega) (by omega) (shorts_two _ _ (by decide) (by decide) _ _) (away_new H2.out.good.dice)).mono ?_
      rintro e w3 ⟨t, zt, rfl, ht⟩
      have H3 := Lib.hid ((H2.out.trans (went_alloc H2.out.good _)).trans (went_thrown (went_alloc H2.out.good _).good ht))
      clear ht
      go_wp2_with fail
      refine (int0_any g 0 p n cap _ (by omega) (by omega) H3.out.good (HV.out.keep H3.out.but) (by omega)).mono ?_
      rintro e w4 ⟨u, zu, rfl, ht⟩
      have H4 := Lib.hid (H3.out.trans ht)
      clear ht
      go_wp2_with fail
      go_ret
      exact ⟨_, by first | omega | (simp [ByteArray.size_append, lit_size]; omega), rfl, H4.out⟩

end Go.Proofs.Ytflcpcefjliijaa
