/-
  CONTRACTS: identity.ascendBelow, itemsAscend.
-/
import Derived.Test.YtcplhnpblpmalaaIdA
import Derived.Test.YtcplhnpblpmalaaOrd
import Derived.Laws.Cover1
namespace Go.Proofs.Ytcplhnpblpmalaa.Idn
open Go Go.RowKit Go.Maps
set_option linter.unusedVariables false
set_option maxRecDepth 1000000

/-- numbers ascend, from 1 to next - 1 -/
def ascB (next : Int) : Int → List En → Bool
  | _, [] => true
  | b, y :: L => decide (b < y.1) && (decide (y.1 < next) && ascB next y.1 L)
theorem ascB_cons (next b : Int) (y : En) (L : List En) : ascB next b (y :: L) = (decide (b < y.1) && (decide (y.1 < next) && ascB next y.1 L)) := rfl
theorem drop_one {α : Type} (L : List α) (d : α) (j : Nat) (h : j < L.length) : L.drop j = L.getD j d :: L.drop (j + 1) := by
  rw [List.drop_eq_getElem_cons h]; simp [List.getD, List.getElem?_eq_getElem h]
theorem ascB_iff (next : Int) : ∀ (b : Int) (L : List En), ascB next b L = true ↔ (L.Pairwise fun a b => a.1 < b.1) ∧ ∀ y ∈ L, b < y.1 ∧ y.1 < next
  | b, [] => by simp [ascB]
  | b, y :: L => by
    simp only [ascB, Bool.and_eq_true, decide_eq_true_eq, ascB_iff next y.1 L, List.pairwise_cons, List.mem_cons]
    constructor
    · rintro ⟨h1, h2, h3, h4⟩
      refine ⟨⟨fun z hz => (h4 z hz).1, h3⟩, ?_⟩
      rintro z (rfl | hz)
      · exact ⟨h1, h2⟩
      · have := h4 z hz; exact ⟨by omega, this.2⟩
    · rintro ⟨⟨h1, h2⟩, h3⟩
      exact ⟨(h3 y (.inl rfl)).1, (h3 y (.inl rfl)).2, h2, fun z hz => ⟨h1 z hz, (h3 z (.inr hz)).2⟩⟩

set_option maxHeartbeats 1000000 in
theorem ascendBelow_any (p : Option Addr) (n cap : Nat) (L : List En) (next : Int) (w : World) (hc : L.length ≤ 100000) (hs : SlIs encEn w (.slice p n cap) L) :
    Calls Try.prog 42 #[.slice p n cap, .int .i64 next] w fun e w' => e = .returned (.bool (ascB next 0 L)) ∧ Below w.heap.size w w' := by
  obtain ⟨hn, hc1, hc2, hlies⟩ := hs.lies
  have hnb : (n : Int) ≤ 100000 := by omega
  have Hn := Lib.hid hn
  clear hn hs hc
  go_enter Try.func42, Try.ntmps42
  go_wp2
  go_loopw [5, 10] (fun c i wr => ∃ (j : Nat) (bv : Int), j ≤ n ∧ i = .int .i64 j ∧ c = .int .i64 bv ∧ Hid (Below w.heap.size w wr) ∧ Hid (ascB next 0 L = ascB next bv (L.drop j))) (fun _ i _ => n - (intOf i).toNat)
  case atStart => exact ⟨0, 0, Nat.zero_le _, rfl, rfl, Below.refl _ _, rfl⟩
  case round =>
    obtain ⟨j, bv, hj, rfl, rfl, hb, hm⟩ := hrel
    by_cases hlt : j < n
    · obtain ⟨b, off, rfl, hcells0⟩ := hlies (by omega)
      have hjl : j < L.length := by rw [← Hn.out]; exact hlt
      obtain ⟨c0, c1, c2, c3⟩ := enAt (hcells0.below hb.out) j hjl
      have hst := drop_one L en0 j hjl
      have hm' := hm.out
      rw [hst] at hm'
      have HD := Lib.hid hm'
      clear hst hm' hm
      generalize L.getD j en0 = x at *
      obtain ⟨i, m, nm, s⟩ := x
      have H1 := Lib.hid hlies
      have HB := Lib.hid (hb.out.trans ((below_box wr (.cells #[.int .i64 i, .string m, .string nm, .string s] 39)).mono hb.out.size))
      clear hlies hcells0 hjl hb
      by_cases h1 : bv < i
      · have h1' : ¬ i ≤ bv := by omega
        by_cases h2 : i < next
        · have h2' : ¬ next ≤ i := by omega
          have HE : Hid (ascB next 0 L = ascB next i (L.drop (j + 1))) := by rw [Hid, HD.out, ascB_cons]; simp [h1, h2]
          clear HD
          go_wp2_with fail
          go_roundw
          case rel => exact ⟨j + 1, i, by omega, by go_num, rfl, HB, HE⟩
          case measure => simp [intOf]; omega
        · have h2' : next ≤ i := by omega
          have HE : Hid (ascB next 0 L = false) := by rw [Hid, HD.out, ascB_cons]; simp [h2]
          clear HD
          go_wp2_with fail
          go_ret
          exact ⟨by rw [HE.out]; rfl, HB.out⟩
      · have h1' : i ≤ bv := by omega
        have HE : Hid (ascB next 0 L = false) := by rw [Hid, HD.out, ascB_cons]; simp [h1]
        clear HD
        go_wp2_with fail
        go_ret
        exact ⟨by rw [HE.out]; rfl, HB.out⟩
    · have hje : j = n := by omega
      have HE : Hid (ascB next 0 L = true) := by
        have : L.drop j = [] := by rw [hje, Hn.out]; exact List.drop_length
        rw [Hid, hm.out, this]; rfl
      clear hje hlies hm
      go_wp2
      go_ret
      exact ⟨by rw [HE.out]; rfl, hb.out⟩

def befB (a b : It) : Bool := ltS a.1 b.1 || (a.1.toList == b.1.toList && ltS a.2.1 b.2.1)
/-- items ascend -/
def ascI : List It → Bool
  | [] => true
  | [_] => true
  | a :: b :: l => befB a b && ascI (b :: l)
theorem ascI_step (L : List It) (j : Nat) (h1 : 1 ≤ j) (h : j < L.length) : ascI (L.drop (j - 1)) = (befB (L.getD (j - 1) it0) (L.getD j it0) && ascI (L.drop (j + 1 - 1))) := by
  rw [drop_one L it0 (j - 1) (by omega), show j - 1 + 1 = j by omega, drop_one L it0 j h, show j + 1 - 1 = j by omega, drop_one L it0 j h]
  rfl
theorem ascI_end (L : List It) (j : Nat) (h : L.length ≤ j) : ascI (L.drop (j - 1)) = true := by
  by_cases e : L.drop (j - 1) = []
  · rw [e]; rfl
  · have hl : j - 1 < L.length := by
      by_cases q : j - 1 < L.length
      · exact q
      · exact absurd (List.drop_eq_nil_iff.2 (by omega)) e
    rw [drop_one L it0 (j - 1) hl, List.drop_eq_nil_iff.2 (by omega)]; rfl

set_option maxHeartbeats 1000000 in
theorem itemsAscend_any (p : Option Addr) (n cap : Nat) (L : List It) (w : World) (hc : L.length ≤ 100000) (hs : SlIs encIt w (.slice p n cap) L) :
    Calls Try.prog 38 #[.slice p n cap] w fun e w' => e = .returned (.bool (ascI L)) ∧ Below w.heap.size w w' := by
  obtain ⟨hn, hc1, hc2, hlies⟩ := hs.lies
  have hnb : (n : Int) ≤ 100000 := by omega
  have Hn := Lib.hid hn
  clear hn hs hc
  go_enter Try.func38, Try.ntmps38
  go_wp2
  go_loopw [3] (fun i wr => ∃ (j : Nat), 1 ≤ j ∧ j ≤ n + 1 ∧ i = .int .i64 j ∧ Hid (Below w.heap.size w wr) ∧ Hid (ascI L = ascI (L.drop (j - 1)))) (fun i _ => n + 1 - (intOf i).toNat)
  case atStart => exact ⟨1, by omega, by omega, rfl, Below.refl _ _, rfl⟩
  case round =>
    obtain ⟨j, hj1, hj, rfl, hb, hm⟩ := hrel
    by_cases hlt : j < n
    · obtain ⟨b, off, rfl, hcells0⟩ := hlies (by omega)
      have hjl : j < L.length := by rw [← Hn.out]; exact hlt
      obtain ⟨c0, c1, c2⟩ := itAt (hcells0.below hb.out) j hjl
      obtain ⟨d0, d1, d2⟩ := itAt (hcells0.below hb.out) (j - 1) (by omega)
      have HS := Lib.hid (ascI_step L j hj1 hjl)
      generalize L.getD j it0 = y at *
      generalize L.getD (j - 1) it0 = x at *
      obtain ⟨xm, xn, xs⟩ := x
      obtain ⟨ym, yn, ys⟩ := y
      have H1 := Lib.hid hlies
      have n1 : (0 : Int) ≤ (j : Int) - 1 := by omega
      have n2 : (j : Int) - 1 < (n : Int) := by omega
      have n4 : (1 : Int) ≤ (j : Int) := by omega
      have e1 : IntKind.i64.wrap ((j : Int) - 1) = (j : Int) - 1 := IntWalk.i64_in _ (by omega)
      clear hlies hcells0 hjl
      have lift1 : ∀ {a : Addr} {v : Value}, wr.cell? a = some v → ∀ o, (wr.alloc o).cell? a = some v := fun {a v} h o => by rw [(below_box wr o).cell (World.block_lt_of_cell? wr _ h)]; exact h
      have lift2 : ∀ {a : Addr} {v : Value}, wr.cell? a = some v → ∀ o o', ((wr.alloc o).alloc o').cell? a = some v := fun {a v} h o o' => by rw [(bnext (below_box wr o) (below_box _ o')).cell (World.block_lt_of_cell? wr _ h)]; exact h
      have c0' := lift1 c0
      have c1' := lift1 c1
      have c2' := lift1 c2
      have d0' := lift1 d0
      have d1' := lift1 d1
      have d2' := lift1 d2
      have c0'' := lift2 c0
      have c1'' := lift2 c1
      have c2'' := lift2 c2
      have d0'' := lift2 d0
      have d1'' := lift2 d1
      have d2'' := lift2 d2
      clear lift1 lift2
      go_wp2_with fail
      go_region
      · have HX := Lib.hid (((cellsAt_alloc wr [.string xm, .string xn, .string xs] 37).below (below_box _ (.cells #[.string ym, .string yn, .string ys] 37))).drew1)
        have HY := Lib.hid ((cellsAt_alloc (wr.alloc (.cells #[.string xm, .string xn, .string xs] 37)) [.string ym, .string yn, .string ys] 37).drew1)
        have HB := Lib.hid (hb.out.trans ((bnext (below_box wr (.cells #[.string xm, .string xn, .string xs] 37)) (bnext (below_box _ (.cells #[.string ym, .string yn, .string ys] 37)) (Below.refl _ _).drew)).mono hb.out.size))
        simp only [World.size_alloc] at HY
        clear hb c0 c1 c2 d0 d1 d2 c0' c1' c2' d0' d1' d2' c0'' c1'' c2'' d0'' d1'' d2''
        generalize ((wr.alloc (.cells #[.string xm, .string xn, .string xs] 37)).alloc (.cells #[.string ym, .string yn, .string ys] 37)).drew = wx at *
        generalize wr.heap.size + 1 = yb at *
        generalize wr.heap.size = xb at *
        obtain ⟨x0, x1, x2⟩ := en3 HX.out
        obtain ⟨y0, y1, y2⟩ := en3 HY.out
        clear HX HY
        by_cases q1 : Op.bytesLess xm.toList ym.toList = true
        · have q2 : (xm.toList == ym.toList) = false := by
            by_cases e : xm.toList = ym.toList
            · rw [e, less_irrefl] at q1; cases q1
            · simpa using e
          have HE : Hid (ascI L = ascI (L.drop (j + 1 - 1))) := by rw [Hid, hm.out, HS.out]; unfold befB ltS; simp [q1]
          clear HS hm
          go_wp2_with fail
          go_roundw
          case rel => exact ⟨j + 1, by omega, by omega, by go_num, HB, HE⟩
          case measure => simp [intOf]; omega
        · have q1' : Op.bytesLess xm.toList ym.toList = false := by simpa using q1
          clear q1
          by_cases q2 : (xm.toList == ym.toList) = true
          · by_cases q3 : Op.bytesLess xn.toList yn.toList = true
            · have HE : Hid (ascI L = ascI (L.drop (j + 1 - 1))) := by rw [Hid, hm.out, HS.out]; unfold befB ltS; simp [q2, q3]
              clear HS hm
              go_wp2_with fail
              go_roundw
              case rel => exact ⟨j + 1, by omega, by omega, by go_num, HB, HE⟩
              case measure => simp [intOf]; omega
            · have q3' : Op.bytesLess xn.toList yn.toList = false := by simpa using q3
              have HE : Hid (ascI L = false) := by rw [Hid, hm.out, HS.out]; unfold befB ltS; simp [q1', q3']
              clear HS hm q3
              go_wp2_with fail
              go_ret
              exact ⟨by rw [HE.out]; rfl, HB.out⟩
          · have q2' : (xm.toList == ym.toList) = false := by simpa using q2
            have HE : Hid (ascI L = false) := by rw [Hid, hm.out, HS.out]; unfold befB ltS; simp [q1', q2']
            clear HS hm q2
            go_wp2_with fail
            go_ret
            exact ⟨by rw [HE.out]; rfl, HB.out⟩
      · have HY := Lib.hid (((cellsAt_alloc wr [.string ym, .string yn, .string ys] 37).below (below_box _ (.cells #[.string xm, .string xn, .string xs] 37))).drew1)
        have HX := Lib.hid ((cellsAt_alloc (wr.alloc (.cells #[.string ym, .string yn, .string ys] 37)) [.string xm, .string xn, .string xs] 37).drew1)
        have HB := Lib.hid (hb.out.trans ((bnext (below_box wr (.cells #[.string ym, .string yn, .string ys] 37)) (bnext (below_box _ (.cells #[.string xm, .string xn, .string xs] 37)) (Below.refl _ _).drew)).mono hb.out.size))
        simp only [World.size_alloc] at HX
        clear hb c0 c1 c2 d0 d1 d2 c0' c1' c2' d0' d1' d2' c0'' c1'' c2'' d0'' d1'' d2''
        generalize ((wr.alloc (.cells #[.string ym, .string yn, .string ys] 37)).alloc (.cells #[.string xm, .string xn, .string xs] 37)).drew = wx at *
        generalize wr.heap.size + 1 = xb at *
        generalize wr.heap.size = yb at *
        obtain ⟨x0, x1, x2⟩ := en3 HX.out
        obtain ⟨y0, y1, y2⟩ := en3 HY.out
        clear HX HY
        by_cases q1 : Op.bytesLess xm.toList ym.toList = true
        · have q2 : (xm.toList == ym.toList) = false := by
            by_cases e : xm.toList = ym.toList
            · rw [e, less_irrefl] at q1; cases q1
            · simpa using e
          have HE : Hid (ascI L = ascI (L.drop (j + 1 - 1))) := by rw [Hid, hm.out, HS.out]; unfold befB ltS; simp [q1]
          clear HS hm
          go_wp2_with fail
          go_roundw
          case rel => exact ⟨j + 1, by omega, by omega, by go_num, HB, HE⟩
          case measure => simp [intOf]; omega
        · have q1' : Op.bytesLess xm.toList ym.toList = false := by simpa using q1
          clear q1
          by_cases q2 : (xm.toList == ym.toList) = true
          · by_cases q3 : Op.bytesLess xn.toList yn.toList = true
            · have HE : Hid (ascI L = ascI (L.drop (j + 1 - 1))) := by rw [Hid, hm.out, HS.out]; unfold befB ltS; simp [q2, q3]
              clear HS hm
              go_wp2_with fail
              go_roundw
              case rel => exact ⟨j + 1, by omega, by omega, by go_num, HB, HE⟩
              case measure => simp [intOf]; omega
            · have q3' : Op.bytesLess xn.toList yn.toList = false := by simpa using q3
              have HE : Hid (ascI L = false) := by rw [Hid, hm.out, HS.out]; unfold befB ltS; simp [q1', q3']
              clear HS hm q3
              go_wp2_with fail
              go_ret
              exact ⟨by rw [HE.out]; rfl, HB.out⟩
          · have q2' : (xm.toList == ym.toList) = false := by simpa using q2
            have HE : Hid (ascI L = false) := by rw [Hid, hm.out, HS.out]; unfold befB ltS; simp [q1', q2']
            clear HS hm q2
            go_wp2_with fail
            go_ret
            exact ⟨by rw [HE.out]; rfl, HB.out⟩
    · have HE : Hid (ascI L = true) := by rw [Hid, hm.out]; exact ascI_end L j (by rw [← Hn.out]; omega)
      clear hlies hm
      go_wp2
      go_ret
      exact ⟨by rw [HE.out]; rfl, hb.out⟩
end Go.Proofs.Ytcplhnpblpmalaa.Idn
