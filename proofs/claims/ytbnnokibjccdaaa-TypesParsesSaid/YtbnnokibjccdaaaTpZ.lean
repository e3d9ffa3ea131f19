/-
  CONTRACTS: the number of nodes of a type: types.Size and the reference's Size.
-/
import Derived.Test.YtbnnokibjccdaaaTpS
namespace Go.Proofs.Ytbnnokibjccdaaa
open Go Go.RowKit
set_option linter.unusedVariables false
set_option linter.unusedSimpArgs false

def sizeP : Tp → Nat
  | .mk _ l => 1 + (l.map sizeP).sum
theorem sizeP_mk (s : ByteArray) (l : List Tp) : sizeP (.mk s l) = 1 + (l.map sizeP).sum := by rw [sizeP]
theorem sum_take {l : List Tp} {j : Nat} (h : j < l.length) : ((l.take (j + 1)).map sizeP).sum = ((l.take j).map sizeP).sum + sizeP l[j] := by
  rw [List.take_add_one, List.getElem?_eq_getElem h, List.map_append, List.sum_append]
  simp
theorem sum_take_le (l : List Tp) (j : Nat) : ((l.take j).map sizeP).sum ≤ (l.map sizeP).sum := by
  have h : (l.map sizeP).sum = ((l.take j).map sizeP).sum + ((l.drop j).map sizeP).sum := by
    rw [← List.sum_append, ← List.map_append, List.take_append_drop]
  omega
theorem sizeP_at {l : List Tp} {j : Nat} (h : j < l.length) : sizeP l[j] ≤ (l.map sizeP).sum := by
  have h1 := sum_take h
  have h2 := sum_take_le l (j + 1)
  omega
def SizeC (f : FuncId) (A : Nat → Prop) (t : Tp) : Prop := ∀ (q : Rw) (w : World), IsP A w q t → sizeP t ≤ 4611686018427387904 →
  Calls Try.prog f #[.agg #[.string q.name, .slice q.p q.n q.cap]] w fun e w' => e = .returned (.int .i64 (sizeP t : Nat)) ∧ Below w.heap.size w w'

set_option maxHeartbeats 2000000 in
set_option maxRecDepth 100000 in
theorem tsize_step {A : Nat → Prop} (s : ByteArray) (l : List Tp) (hS : ∀ j (a : j < l.length), SizeC 36 A l[j]) : SizeC 36 A (.mk s l) := by
  intro q w h hz
  rw [sizeP_mk] at hz ⊢
  obtain ⟨e1, g⟩ := h.parts
  obtain ⟨s1, p, n, c⟩ := q
  have e1' : s1 = s := e1
  subst e1'
  have g' : IsPs A w (.slice p n c) l := g
  obtain ⟨z1, hm, -⟩ := g'.at_
  subst z1
  unfold maxLen at hm
  have hb := below_box w (.cells #[.string s1, .slice p l.length c] 24)
  obtain ⟨x0, x1⟩ := box_p w ⟨s1, p, l.length, c⟩ 24
  simp only [Nat.zero_add] at x0 x1
  have HG := Lib.hid (g'.later hb)
  have HB := Lib.hid hb
  have HS := Lib.hid hS
  have HZ := Lib.hid hz
  clear h g g' e1 hb hS hz
  go_enter Try.func36, Try.ntmps36
  go_wp2_with fail
  clear x0 x1
  generalize hW : w.alloc (.cells #[.string s1, .slice p l.length c] 24) = w2 at *
  clear hW
  go_loopw [3, 9] (fun k i wr => ∃ (j m : Nat), j ≤ l.length ∧ i = .int .i64 j ∧ k = .int .i64 m ∧ m = 1 + ((l.take j).map sizeP).sum ∧ Hid (Below w2.heap.size w2 wr)) (fun _ i _ => l.length - (intOf i).toNat)
  case atStart => exact ⟨0, 1, Nat.zero_le _, rfl, rfl, rfl, Below.refl _ _⟩
  case round =>
    obtain ⟨j, m, hj, rfl, rfl, hk, HBR⟩ := hrel
    obtain ⟨wx, rfl⟩ : ∃ x, x = wr := ⟨wr, rfl⟩
    have HK := Lib.hid hk
    clear hk
    by_cases hlt : j < l.length
    · have hlti : (j : Int) < (l.length : Int) := by omega
      obtain ⟨b1, o1, q1, rfl, t1, a1⟩ := (HG.out.later HBR.out).at_.2.2 j hlt
      have hb1 := below_box wx (.cells #[.string q1.name, .slice q1.p q1.n q1.cap] 24)
      obtain ⟨tz, htz⟩ : ∃ z, z = sizeP (l[j]'hlt) := ⟨_, rfl⟩
      have hle := sizeP_at hlt
      have hst := sum_take hlt
      have hsl := sum_take_le l (j + 1)
      rw [← htz] at hle hst
      have hzz := HZ.out
      have HC := Lib.hid (HS.out j hlt q1 _ (t1.later hb1) (by rw [← htz]; omega))
      rw [← htz] at HC
      have HB2 := Lib.hid (bnext HBR.out hb1)
      have hm2 : m + tz = 1 + ((l.take (j + 1)).map sizeP).sum := by rw [hst]; have := HK.out; omega
      have HM2 := Lib.hid hm2
      have hmz : m + tz ≤ 4611686018427387904 := by rw [hm2]; omega
      have ew : IntKind.i64.wrap ((m : Int) + (tz : Int)) = (m : Int) + (tz : Int) := IntWalk.i64_in _ (by omega)
      obtain ⟨y0, y1⟩ := a1
      clear t1 hb1 hle hst hsl hzz htz hm2
      go_wp2_with fail
      refine HC.out.mono ?_
      rintro e w5 ⟨rfl, hb5⟩
      have HBZ := Lib.hid (bnext HB2.out hb5)
      clear hb5 y0 y1 HC
      go_wp2_with fail
      go_roundw
      case rel => exact ⟨j + 1, m + tz, by omega, by go_num, by go_num, HM2.out, HBZ⟩
      case measure => simp [intOf]; omega
    · obtain rfl : j = l.length := by omega
      go_wp2_with fail
      go_ret
      have hk2 := HK.out
      rw [List.take_length] at hk2
      exact ⟨by rw [hk2]; rfl, bnext HB.out HBR.out⟩
theorem tsizeN_any {A : Nat → Prop} : ∀ (N : Nat) (t : Tp), SizeOf.sizeOf t < N → SizeC 36 A t
  | 0, t, hN => absurd hN (by omega)
  | N + 1, .mk s l, hN => tsize_step s l fun j a => tsizeN_any N l[j] (by
      have h3 := List.sizeOf_lt_of_mem (List.getElem_mem a)
      simp only [Tp.mk.sizeOf_spec] at hN
      omega)
theorem tsize_any {A : Nat → Prop} (t : Tp) : SizeC 36 A t := tsizeN_any _ t (Nat.lt_succ_self _)
set_option maxHeartbeats 2000000 in
set_option maxRecDepth 100000 in
theorem rsize_step {A : Nat → Prop} (s : ByteArray) (l : List Tp) (hS : ∀ j (a : j < l.length), SizeC 33 A l[j]) : SizeC 33 A (.mk s l) := by
  intro q w h hz
  rw [sizeP_mk] at hz ⊢
  obtain ⟨e1, g⟩ := h.parts
  obtain ⟨s1, p, n, c⟩ := q
  have e1' : s1 = s := e1
  subst e1'
  have g' : IsPs A w (.slice p n c) l := g
  obtain ⟨z1, hm, -⟩ := g'.at_
  subst z1
  unfold maxLen at hm
  have hb := below_box w (.cells #[.string s1, .slice p l.length c] 24)
  have HX := Lib.hid (box_p w ⟨s1, p, l.length, c⟩ 24)
  obtain ⟨x0, x1⟩ := HX.out
  simp only [Nat.zero_add] at x0 x1
  have HG := Lib.hid (g'.later hb)
  have HB := Lib.hid hb
  have HS := Lib.hid hS
  have HZ := Lib.hid hz
  clear h g g' e1 hb hS hz
  go_enter Try.func33, Try.ntmps33
  go_wp2_with fail
  clear x0 x1
  generalize hW : w.alloc (.cells #[.string s1, .slice p l.length c] 24) = w2 at *
  clear hW
  go_loopw [3, 4] (fun k i wr => ∃ (j m : Nat), j ≤ l.length ∧ i = .int .i64 j ∧ k = .int .i64 m ∧ m = 1 + ((l.take j).map sizeP).sum ∧ Hid (Below w2.heap.size w2 wr)) (fun _ i _ => l.length - (intOf i).toNat)
  case atStart => exact ⟨0, 1, Nat.zero_le _, rfl, rfl, rfl, Below.refl _ _⟩
  case round =>
    obtain ⟨j, m, hj, rfl, rfl, hk, HBR⟩ := hrel
    obtain ⟨wx, rfl⟩ : ∃ x, x = wr := ⟨wr, rfl⟩
    have HK := Lib.hid hk
    clear hk
    obtain ⟨x0, x1⟩ := HX.out.below HBR.out
    simp only [Nat.zero_add] at x0 x1
    by_cases hlt : j < l.length
    · have hlti : (j : Int) < (l.length : Int) := by omega
      obtain ⟨b1, o1, q1, rfl, t1, a1⟩ := (HG.out.later HBR.out).at_.2.2 j hlt
      obtain ⟨tz, htz⟩ : ∃ z, z = sizeP (l[j]'hlt) := ⟨_, rfl⟩
      have hle := sizeP_at hlt
      have hst := sum_take hlt
      have hsl := sum_take_le l (j + 1)
      rw [← htz] at hle hst
      have hzz := HZ.out
      have HC := Lib.hid (HS.out j hlt q1 _ t1 (by rw [← htz]; omega))
      rw [← htz] at HC
      have HB2 := HBR
      have hm2 : m + tz = 1 + ((l.take (j + 1)).map sizeP).sum := by rw [hst]; have := HK.out; omega
      have HM2 := Lib.hid hm2
      have hmz : m + tz ≤ 4611686018427387904 := by rw [hm2]; omega
      have ew : IntKind.i64.wrap ((m : Int) + (tz : Int)) = (m : Int) + (tz : Int) := IntWalk.i64_in _ (by omega)
      obtain ⟨y0, y1⟩ := a1
      clear t1 hle hst hsl hzz htz hm2
      go_wp2_with fail
      refine HC.out.mono ?_
      rintro e w5 ⟨rfl, hb5⟩
      have HBZ := Lib.hid (bnext HB2.out hb5)
      clear hb5 y0 y1 x0 x1 HC
      go_wp2_with fail
      go_roundw
      case rel => exact ⟨j + 1, m + tz, by omega, by go_num, by go_num, HM2.out, HBZ⟩
      case measure => simp [intOf]; omega
    · obtain rfl : j = l.length := by omega
      go_wp2_with fail
      go_ret
      have hk2 := HK.out
      rw [List.take_length] at hk2
      exact ⟨by rw [hk2]; rfl, bnext HB.out HBR.out⟩
theorem rsizeN_any {A : Nat → Prop} : ∀ (N : Nat) (t : Tp), SizeOf.sizeOf t < N → SizeC 33 A t
  | 0, t, hN => absurd hN (by omega)
  | N + 1, .mk s l, hN => rsize_step s l fun j a => rsizeN_any N l[j] (by
      have h3 := List.sizeOf_lt_of_mem (List.getElem_mem a)
      simp only [Tp.mk.sizeOf_spec] at hN
      omega)
theorem rsize_any {A : Nat → Prop} (t : Tp) : SizeC 33 A t := rsizeN_any _ t (Nat.lt_succ_self _)
end Go.Proofs.Ytbnnokibjccdaaa
