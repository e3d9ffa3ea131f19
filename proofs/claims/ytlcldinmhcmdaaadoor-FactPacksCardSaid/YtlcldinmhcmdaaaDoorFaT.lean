/-
  CONTRACTS: lists of strings that are compared.
-/
import Derived.Test.YtlcldinmhcmdaaaDoorFaD
import Derived.Test.YtlcldinmhcmdaaaDoorLw
import Derived.BigQuiet
namespace Go.Proofs.YtlcldinmhcmdaaaDoor
open Go Go.RowKit
set_option linter.unusedVariables false
set_option linter.unusedSimpArgs false

/-- strings in a row -/
def encN : Enc ByteArray := ⟨fun s => [.string s], 1, fun _ => rfl, fun x v hv => by simp at hv; subst hv; rfl, by decide⟩
theorem SlIs.strAt {w : World} {p : Option Addr} {n c : Nat} {L : List ByteArray} (h : SlIs encN w (.slice p n c) L) : n = L.length ∧ n ≤ maxLen ∧ ∀ j, (hj : j < L.length) → ∃ (b off : Nat), p = some ⟨b, off, none⟩ ∧ w.cell? ⟨b, off + j, none⟩ = some (.string L[j]) := by
  obtain ⟨hn, h2, h3, h4⟩ := h.lies
  refine ⟨by omega, by omega, fun j hj => ?_⟩
  obtain ⟨b, off, e, hc⟩ := h4 (by omega)
  have := hc.elem j hj 0 (by decide) _ rfl
  exact ⟨b, off, e, by simpa [encN] using this⟩
set_option maxHeartbeats 2000000 in
set_option maxRecDepth 100000 in
theorem sameTexts_any (l m : List ByteArray) (p1 p2 : Option Addr) (n1 n2 c1 c2 : Nat) (w : World) (h1 : SlIs encN w (.slice p1 n1 c1) l) (h2 : SlIs encN w (.slice p2 n2 c2) m) :
    Calls Tryd.prog 9 #[.slice p1 n1 c1, .slice p2 n2 c2] w fun e w' => (∃ b : Bool, e = .returned (.bool b) ∧ (b = true ↔ l = m)) ∧ Below w.heap.size w w' := by
  obtain ⟨e1, hm1, g1⟩ := h1.strAt
  obtain ⟨e2, hm2, g2⟩ := h2.strAt
  subst e1; subst e2
  unfold maxLen at hm1 hm2
  have G1 := Lib.hid g1
  have G2 := Lib.hid g2
  clear h1 h2 g1 g2
  by_cases hlen : l.length = m.length
  · have hne : (((l.length : Nat) : Int) != ((m.length : Nat) : Int)) = false := by rw [hlen]; simp
    have HLEN := Lib.hid hlen
    clear hlen
    go_enter Tryd.func9, Tryd.ntmps9
    go_wp2_with fail
    clear hne
    go_loopw [5] (fun i wr => ∃ j : Nat, j ≤ l.length ∧ i = .int .i64 j ∧ Hid (Below w.heap.size w wr) ∧ Hid (∀ x (a : x < l.length) (b : x < m.length), x < j → l[x] = m[x])) (fun i _ => l.length - (intOf i).toNat)
    case atStart => exact ⟨0, Nat.zero_le _, rfl, Below.refl _ _, fun x a b h => by omega⟩
    case round =>
      obtain ⟨j, hj, rfl, HB, HE⟩ := hrel
      obtain ⟨wx, rfl⟩ : ∃ x, x = wr := ⟨wr, rfl⟩
      by_cases hlt : j < l.length
      · have hlti : (j : Int) < (l.length : Int) := by omega
        have hltm : j < m.length := by have := HLEN.out; omega
        have hltmi : (j : Int) < (m.length : Int) := by omega
        obtain ⟨b1, o1, rfl, a1⟩ := G1.out j hlt
        obtain ⟨b2, o2, rfl, a2⟩ := G2.out j hltm
        have x1 : wx.cell? ⟨b1, o1 + j, none⟩ = some (.string (l[j]'hlt)) := by
          rw [HB.out.cell (World.block_lt_of_cell? w _ a1)]; exact a1
        have x2 : wx.cell? ⟨b2, o2 + j, none⟩ = some (.string (m[j]'hltm)) := by
          rw [HB.out.cell (World.block_lt_of_cell? w _ a2)]; exact a2
        clear a1 a2
        obtain ⟨x, hx⟩ : ∃ x, x = l[j]'hlt := ⟨_, rfl⟩
        obtain ⟨y, hy⟩ : ∃ y, y = m[j]'hltm := ⟨_, rfl⟩
        rw [← hx] at x1
        rw [← hy] at x2
        have HX := Lib.hid hx
        have HY := Lib.hid hy
        clear hx hy
        have HBD := Lib.hid (fun n => bnext HB.out (drew_below (B := wx.heap.size) (w := wx) n))
        by_cases hxy : x = y
        · have hq : (x.toList == y.toList) = true := by rw [hxy]; simp
          have HXY := Lib.hid hxy
          clear hxy
          go_wp2_with fail
          go_quiet (fail)
          go_wp2_with fail
          go_roundw
          case rel => exact ⟨j + 1, by omega, by go_num, HBD.out _, fun z a b h => by
            by_cases e : z < j
            · exact HE.out z a b e
            · obtain rfl : z = j := by omega
              rw [← HX.out, ← HY.out]; exact HXY.out⟩
          case measure => simp [intOf]; omega
        · have hq : (x.toList == y.toList) = false := by
            rw [beq_eq_false_iff_ne]
            exact bytes_ne hxy
          have HXY := Lib.hid hxy
          clear hxy
          go_wp2_with fail
          go_quiet (fail)
          go_wp2_with fail
          go_ret
          refine ⟨⟨false, rfl, (fun h => by cases h), fun h => ?_⟩, HBD.out _⟩
          subst h
          exact absurd (HX.out.trans HY.out.symm) HXY.out
      · obtain rfl : j = l.length := by omega
        go_wp2_with fail
        go_ret
        exact ⟨⟨true, rfl, (fun _ => List.ext_getElem HLEN.out (fun x a b => HE.out x a b a)), fun _ => rfl⟩, HB.out⟩
  · have hne : (((l.length : Nat) : Int) != ((m.length : Nat) : Int)) = true := by rw [bne_iff_ne]; omega
    go_enter Tryd.func9, Tryd.ntmps9
    go_wp2_with fail
    go_ret
    exact ⟨⟨false, rfl, (fun h => by cases h), fun h => absurd (by rw [h]) hlen⟩, Below.refl _ _⟩
end Go.Proofs.YtlcldinmhcmdaaaDoor
