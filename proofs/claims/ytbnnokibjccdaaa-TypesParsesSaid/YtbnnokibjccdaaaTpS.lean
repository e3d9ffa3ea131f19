/-
  CONTRACTS: types.Same, the reference's Same: whether two types are the same one.
-/
import Derived.Test.YtbnnokibjccdaaaTpV
import Derived.Test.YtbnnokibjccdaaaTpS0
namespace Go.Proofs.Ytbnnokibjccdaaa
open Go Go.RowKit
set_option linter.unusedVariables false
set_option linter.unusedSimpArgs false

set_option maxHeartbeats 2000000 in
set_option maxRecDepth 100000 in
/-- slices.EqualFunc with Same -/
theorem eqf_any {A1 A2 : Nat → Prop} (l m : List Tp) (p1 p2 : Option Addr) (n1 n2 c1 c2 : Nat) (w : World) (h1 : IsPs A1 w (.slice p1 n1 c1) l) (h2 : IsPs A2 w (.slice p2 n2 c2) m)
    (hS : ∀ j (a : j < l.length) (b : j < m.length), SameC 35 A1 A2 l[j] m[j]) :
    Calls Try.prog 58 #[.slice p1 n1 c1, .slice p2 n2 c2, .func (.func 35) #[] #[]] w fun e w' => ∃ b : Bool, e = .returned (.bool b) ∧ (b = true ↔ l = m) ∧ Below w.heap.size w w' := by
  obtain ⟨e1, hm1, -⟩ := h1.at_
  obtain ⟨e2, hm2, -⟩ := h2.at_
  subst e1; subst e2
  unfold maxLen at hm1 hm2
  have H1 := Lib.hid h1
  have H2 := Lib.hid h2
  have HS := Lib.hid hS
  clear h1 h2 hS
  by_cases hlen : l.length = m.length
  · have hne : (((l.length : Nat) : Int) != ((m.length : Nat) : Int)) = false := by rw [hlen]; simp
    have HLEN := Lib.hid hlen
    clear hlen
    go_enter Try.func58, Try.ntmps58
    go_wp2_with fail
    clear hne
    go_loopw [17] (fun i wr => ∃ j : Nat, j ≤ l.length ∧ i = .int .i64 j ∧ Hid (Below w.heap.size w wr) ∧ Hid (∀ x (a : x < l.length) (b : x < m.length), x < j → l[x] = m[x])) (fun i _ => l.length - (intOf i).toNat)
    case atStart => exact ⟨0, Nat.zero_le _, rfl, Below.refl _ _, fun x a b h => by omega⟩
    case round =>
      obtain ⟨j, hj, rfl, HB, HE⟩ := hrel
      obtain ⟨wx, rfl⟩ : ∃ x, x = wr := ⟨wr, rfl⟩
      by_cases hlt : j < l.length
      · have hlti : (j : Int) < (l.length : Int) := by omega
        have hltm : j < m.length := by have := HLEN.out; omega
        have hltmi : (j : Int) < (m.length : Int) := by omega
        obtain ⟨b1, o1, q1, rfl, t1, a1⟩ := (H1.out.later HB.out).at_.2.2 j hlt
        obtain ⟨b2, o2, q2, rfl, t2, a2⟩ := (H2.out.later HB.out).at_.2.2 j hltm
        have hb1 := below_box wx (.cells #[.string q1.name, .slice q1.p q1.n q1.cap] 24)
        have a2' := a2.below hb1
        have hb2 := bnext hb1 (below_box _ (.cells #[.string q2.name, .slice q2.p q2.n q2.cap] 24))
        have HC := Lib.hid (HS.out j hlt hltm q1 q2 _ (t1.later hb2) (t2.later hb2))
        have HB2 := Lib.hid (bnext HB.out hb2)
        obtain ⟨x0, x1⟩ := a1
        obtain ⟨y0, y1⟩ := a2
        obtain ⟨z0, z1⟩ := a2'
        clear t1 t2 hb1 hb2
        go_wp2_with fail
        refine HC.out.mono ?_
        rintro e w5 ⟨bb, rfl, hbb, hb5⟩
        have HBZ := Lib.hid (bnext HB2.out hb5)
        have HBB := Lib.hid hbb
        clear hbb hb5 x0 x1 y0 y1 z0 z1 HC
        cases bb
        · go_wp2_with fail
          go_ret
          refine ⟨false, rfl, ⟨fun h => (by cases h), fun h => ?_⟩, HBZ.out⟩
          subst h
          exact HBB.out.2 rfl
        · go_wp2_with fail
          go_roundw
          case rel => exact ⟨j + 1, by omega, by go_num, HBZ, fun x a b h => by
            by_cases e : x < j
            · exact HE.out x a b e
            · obtain rfl : x = j := by omega
              exact HBB.out.1 (by trivial)⟩
          case measure => simp [intOf]; omega
      · obtain rfl : j = l.length := by omega
        go_wp2_with fail
        go_ret
        exact ⟨true, rfl, ⟨fun _ => List.ext_getElem HLEN.out (fun x a b => HE.out x a b a), fun _ => rfl⟩, HB.out⟩
  · have hne : (((l.length : Nat) : Int) != ((m.length : Nat) : Int)) = true := by rw [bne_iff_ne]; omega
    go_enter Try.func58, Try.ntmps58
    go_wp2_with fail
    go_ret
    exact ⟨false, rfl, ⟨fun h => (by cases h), fun h => absurd (by rw [h]) hlen⟩, Below.refl _ _⟩

set_option maxRecDepth 100000 in
/-- types.Same, from that of the parts -/
theorem tsame_step {A1 A2 : Nat → Prop} (s u : ByteArray) (l m : List Tp) (hS : ∀ j (a : j < l.length) (b : j < m.length), SameC 35 A1 A2 l[j] m[j]) : SameC 35 A1 A2 (.mk s l) (.mk u m) := by
  intro q1 q2 w h1 h2
  obtain ⟨e1, g1⟩ := h1.parts
  obtain ⟨e2, g2⟩ := h2.parts
  obtain ⟨s1, p1, n1, c1⟩ := q1
  obtain ⟨s2, p2, n2, c2⟩ := q2
  have e1' : s1 = s := e1
  have e2' : s2 = u := e2
  subst e1'; subst e2'
  have g1' : IsPs A1 w (.slice p1 n1 c1) l := g1
  have g2' : IsPs A2 w (.slice p2 n2 c2) m := g2
  have hb1 := below_box w (.cells #[.string s1, .slice p1 n1 c1] 24)
  have hb2 := bnext hb1 (below_box _ (.cells #[.string s2, .slice p2 n2 c2] 24))
  have x := box_p w ⟨s1, p1, n1, c1⟩ 24
  have xx := x.below (below_box _ (.cells #[.string s2, .slice p2 n2 c2] 24))
  have y := box_p (w.alloc (.cells #[.string s1, .slice p1 n1 c1] 24)) ⟨s2, p2, n2, c2⟩ 24
  have HC := Lib.hid (eqf_any l m p1 p2 n1 n2 c1 c2 _ (g1'.later hb2) (g2'.later hb2) hS)
  have HB := Lib.hid hb2
  obtain ⟨x0, x1⟩ := xx
  obtain ⟨y0, y1⟩ := y
  simp only [Nat.zero_add] at x0 x1 y0 y1
  clear x hb1 hb2 h1 h2 g1 g2 g1' g2' e1 e2 hS
  by_cases hs : s1 = s2
  · subst hs
    go_enter Try.func35, Try.ntmps35
    go_wp2_with fail
    refine HC.out.mono ?_
    rintro e w5 ⟨bb, rfl, hbb, hb5⟩
    have HBZ := Lib.hid (bnext HB.out hb5)
    have HBB := Lib.hid hbb
    clear hbb hb5
    go_wp2_with fail
    go_ret
    exact ⟨bb, rfl, HBB.out.trans ⟨fun e => by rw [e], fun e => by injection e⟩, HBZ.out⟩
  · have hs2 := bytes_ne2 hs
    go_enter Try.func35, Try.ntmps35
    go_wp2_with fail
    go_ret
    exact ⟨false, rfl, ⟨fun h => (by cases h), fun e => by injection e with e _; exact absurd e hs⟩, HB.out⟩
theorem tsameN_any {A1 A2 : Nat → Prop} : ∀ (N : Nat) (t u : Tp), SizeOf.sizeOf t < N → SameC 35 A1 A2 t u
  | 0, t, _, hN => absurd hN (by omega)
  | N + 1, .mk s l, .mk u m, hN => tsame_step s u l m fun j a b => tsameN_any N l[j] m[j] (by
      have h3 := List.sizeOf_lt_of_mem (List.getElem_mem a)
      simp only [Tp.mk.sizeOf_spec] at hN
      omega)
theorem tsame_any {A1 A2 : Nat → Prop} (t u : Tp) : SameC 35 A1 A2 t u := tsameN_any _ t u (Nat.lt_succ_self _)
end Go.Proofs.Ytbnnokibjccdaaa
