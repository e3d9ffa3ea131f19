/-
  CONTRACTS: a module is looked for by a function value.
-/
import Derived.Test.YtflcpcefjliijaaRefCheck
namespace Go.Proofs.Ytflcpcefjliijaa
open Go.RowKit
set_option linter.unusedVariables false

/-- the place of the first module that is looked for, or -1 -/
def posOf (f : Src → Bool) (L : List Src) : Int := if L.findIdx f < L.length then (L.findIdx f : Int) else -1
theorem posOf_hit (f : Src → Bool) (L : List Src) (j : Nat) (hj : j < L.length) (h : f (L.getD j empty2) = true) (hn : ∀ i, i < j → f (L.getD i empty2) = false) : posOf f L = j := by
  have e : L.findIdx f = j := by
    rw [List.findIdx_eq hj]
    refine ⟨by simpa [List.getD, List.getElem?_eq_getElem hj] using h, fun i hi => ?_⟩
    have := hn i hi
    simpa [List.getD, List.getElem?_eq_getElem (show i < L.length by omega)] using this
  unfold posOf
  rw [e, if_pos hj]
theorem posOf_none (f : Src → Bool) (L : List Src) (hn : ∀ i, i < L.length → f (L.getD i empty2) = false) : posOf f L = -1 := by
  unfold posOf
  rw [if_neg]
  intro h
  have := List.findIdx_getElem (w := h)
  have h2 := hn _ h
  simp [List.getD, List.getElem?_eq_getElem h] at h2
  rw [h2] at this
  cases this
def noneTo (f : Src → Bool) (L : List Src) (j : Nat) : Prop := ∀ i, i < j → f (L.getD i empty2) = false
theorem noneTo_step {f : Src → Bool} {L : List Src} {j : Nat} (h : noneTo f L j) (g : f (L.getD j empty2) = false) : noneTo f L (j + 1) := by
  intro i hi
  by_cases e : i = j
  · subst e; exact g
  · exact h i (by omega)

/-- what Put looks for: the first name that is not below -/
def atLeast (nm : ByteArray) (x : Src) : Bool := !Op.bytesLess x.1.toList nm.toList
/-- what Find, Drop and Apply look for -/
def isNamed (nm : ByteArray) (x : Src) : Bool := x.1.toList == nm.toList

theorem putC_any (n t nm : ByteArray) (pb : Nat) (w : World) (hc : w.cell? ⟨pb, 0, none⟩ = some (.string nm)) :
    Calls Try.prog 61 #[.agg #[.string n, .string t], .pointer (some ⟨pb, 0, none⟩)] w fun e w' => e = .returned (.bool (atLeast nm (n, t))) ∧ w' = w.alloc (.cells #[.string n, .string t] 35) := by
  have hc' : ∀ o, (w.alloc o).cell? ⟨pb, 0, none⟩ = some (.string nm) := fun o => by rw [((Below.refl w.heap.size w).alloc (Nat.le_refl _) o).cell (World.block_lt_of_cell? w _ hc)]; exact hc
  go_enter Try.func61, Try.ntmps61
  go_wp2
  all_goals go_ret
  all_goals exact ⟨rfl, rfl⟩
theorem namedC_any (n t nm : ByteArray) (pb : Nat) (w : World) (hc : w.cell? ⟨pb, 0, none⟩ = some (.string nm)) :
    Calls Try.prog 66 #[.agg #[.string n, .string t], .pointer (some ⟨pb, 0, none⟩)] w fun e w' => e = .returned (.bool (isNamed nm (n, t))) ∧ w' = w.alloc (.cells #[.string n, .string t] 35) := by
  have hc' : ∀ o, (w.alloc o).cell? ⟨pb, 0, none⟩ = some (.string nm) := fun o => by rw [((Below.refl w.heap.size w).alloc (Nat.le_refl _) o).cell (World.block_lt_of_cell? w _ hc)]; exact hc
  go_enter Try.func66, Try.ntmps66
  go_wp2
  all_goals go_ret
  all_goals exact ⟨rfl, rfl⟩

set_option maxHeartbeats 400000 in
theorem indexPut_any (p : Option Addr) (n cap pb : Nat) (L : List Src) (nm : ByteArray) (w : World) (hc : n ≤ 4611686018427387904) (hl : SrcIs w (.slice p n cap) L) (hpb : w.cell? ⟨pb, 0, none⟩ = some (.string nm)) :
    Calls Try.prog 79 #[.slice p n cap, .func (.func 61) #[] #[.pointer (some ⟨pb, 0, none⟩)]] w fun e w' => e = .returned (.int .i64 (posOf (atLeast nm) L)) ∧ Below w.heap.size w w' := by
  obtain ⟨hn, hc1, hc2, hlies⟩ := hl.lies
  have Hn := Lib.hid hn
  have Hpb := Lib.hid hpb
  have lpb := World.block_lt_of_cell? w _ hpb
  clear hn hl hpb
  go_enter Try.func79, Try.ntmps79
  go_wp2
  go_loopw [8] (fun i wr => ∃ j : Nat, j ≤ n ∧ i = .int .i64 j ∧ Hid (noneTo (atLeast nm) L j) ∧ Hid (Below w.heap.size w wr)) (fun i _ => n - (intOf i).toNat)
  case atStart => exact ⟨0, Nat.zero_le _, rfl, fun i hi => absurd hi (by omega), Below.refl _ _⟩
  case round =>
    obtain ⟨j, hj, rfl, hg, hb⟩ := hrel
    by_cases hlt : j < n
    · obtain ⟨b, off, rfl, hcells0⟩ := hlies (by omega)
      have hcells := hcells0.below hb.out
      have hjl : j < L.length := by rw [← Hn.out]; exact hlt
      have c0 := hcells.name j hjl
      have c1 := hcells.text j hjl
      have hp2 : wr.cell? ⟨pb, 0, none⟩ = some (.string nm) := by rw [hb.out.cell lpb]; exact Hpb.out
      have hhit := posOf_hit (atLeast nm) L j hjl
      have hstep := @noneTo_step (atLeast nm) L j hg.out
      generalize L.getD j empty2 = x at *
      obtain ⟨na, tx⟩ := x
      have Hlies := Lib.hid hlies
      have Hcells := Lib.hid hcells
      by_cases ht : atLeast nm (na, tx) = true
      · have hpos : Hid (posOf (atLeast nm) L = j) := hhit ht hg.out
        clear hlies hcells hcells0 hhit hstep hjl
        go_wp2_with (go_at_call 61; refine (putC_any _ _ _ _ _ hp2).mono ?_; rintro e w' ⟨rfl, rfl⟩)
        go_ret
        exact ⟨by rw [hpos.out]; rfl, hb.out.alloc hb.out.size _⟩
      · have ht' : atLeast nm (na, tx) = false := by simpa using ht
        have hg' : Hid (noneTo (atLeast nm) L (j + 1)) := hstep ht'
        clear hlies hcells hcells0 hhit hstep hjl ht
        go_wp2_with (go_at_call 61; refine (putC_any _ _ _ _ _ hp2).mono ?_; rintro e w' ⟨rfl, rfl⟩)
        go_roundw
        case rel => exact ⟨j + 1, by omega, by go_num, hg'.out, hb.out.alloc hb.out.size _⟩
        case measure => simp [intOf]; omega
    · have hje : j = n := by omega
      have hend0 : Hid (posOf (atLeast nm) L = -1) := posOf_none (atLeast nm) L (by rw [← Hn.out, ← hje]; exact hg.out)
      clear hje
      go_wp2
      go_ret
      exact ⟨by rw [hend0.out]; rfl, hb.out⟩

set_option maxHeartbeats 400000 in
theorem indexNamed_any (p : Option Addr) (n cap pb : Nat) (L : List Src) (nm : ByteArray) (w : World) (hc : n ≤ 4611686018427387904) (hl : SrcIs w (.slice p n cap) L) (hpb : w.cell? ⟨pb, 0, none⟩ = some (.string nm)) :
    Calls Try.prog 79 #[.slice p n cap, .func (.func 66) #[] #[.pointer (some ⟨pb, 0, none⟩)]] w fun e w' => e = .returned (.int .i64 (posOf (isNamed nm) L)) ∧ Below w.heap.size w w' := by
  obtain ⟨hn, hc1, hc2, hlies⟩ := hl.lies
  have Hn := Lib.hid hn
  have Hpb := Lib.hid hpb
  have lpb := World.block_lt_of_cell? w _ hpb
  clear hn hl hpb
  go_enter Try.func79, Try.ntmps79
  go_wp2
  go_loopw [8] (fun i wr => ∃ j : Nat, j ≤ n ∧ i = .int .i64 j ∧ Hid (noneTo (isNamed nm) L j) ∧ Hid (Below w.heap.size w wr)) (fun i _ => n - (intOf i).toNat)
  case atStart => exact ⟨0, Nat.zero_le _, rfl, fun i hi => absurd hi (by omega), Below.refl _ _⟩
  case round =>
    obtain ⟨j, hj, rfl, hg, hb⟩ := hrel
    by_cases hlt : j < n
    · obtain ⟨b, off, rfl, hcells0⟩ := hlies (by omega)
      have hcells := hcells0.below hb.out
      have hjl : j < L.length := by rw [← Hn.out]; exact hlt
      have c0 := hcells.name j hjl
      have c1 := hcells.text j hjl
      have hp2 : wr.cell? ⟨pb, 0, none⟩ = some (.string nm) := by rw [hb.out.cell lpb]; exact Hpb.out
      have hhit := posOf_hit (isNamed nm) L j hjl
      have hstep := @noneTo_step (isNamed nm) L j hg.out
      generalize L.getD j empty2 = x at *
      obtain ⟨na, tx⟩ := x
      have Hlies := Lib.hid hlies
      have Hcells := Lib.hid hcells
      by_cases ht : isNamed nm (na, tx) = true
      · have hpos : Hid (posOf (isNamed nm) L = j) := hhit ht hg.out
        clear hlies hcells hcells0 hhit hstep hjl
        go_wp2_with (go_at_call 66; refine (namedC_any _ _ _ _ _ hp2).mono ?_; rintro e w' ⟨rfl, rfl⟩)
        go_ret
        exact ⟨by rw [hpos.out]; rfl, hb.out.alloc hb.out.size _⟩
      · have ht' : isNamed nm (na, tx) = false := by simpa using ht
        have hg' : Hid (noneTo (isNamed nm) L (j + 1)) := hstep ht'
        clear hlies hcells hcells0 hhit hstep hjl ht
        go_wp2_with (go_at_call 66; refine (namedC_any _ _ _ _ _ hp2).mono ?_; rintro e w' ⟨rfl, rfl⟩)
        go_roundw
        case rel => exact ⟨j + 1, by omega, by go_num, hg'.out, hb.out.alloc hb.out.size _⟩
        case measure => simp [intOf]; omega
    · have hje : j = n := by omega
      have hend0 : Hid (posOf (isNamed nm) L = -1) := posOf_none (isNamed nm) L (by rw [← Hn.out, ← hje]; exact hg.out)
      clear hje
      go_wp2
      go_ret
      exact ⟨by rw [hend0.out]; rfl, hb.out⟩

theorem firstPut_any (p : Option Addr) (n cap pb : Nat) (L : List Src) (nm : ByteArray) (w : World) (hc : n ≤ 4611686018427387904) (hl : SrcIs w (.slice p n cap) L) (hpb : w.cell? ⟨pb, 0, none⟩ = some (.string nm)) :
    Calls Try.prog 60 #[.slice p n cap, .func (.func 61) #[] #[.pointer (some ⟨pb, 0, none⟩)]] w fun e w' => e = .returned (.int .i64 (posOf (atLeast nm) L)) ∧ Below w.heap.size w w' := by
  have HC := Lib.hid (indexPut_any p n cap pb L nm w hc hl hpb)
  clear hl hpb
  go_enter Try.func60, Try.ntmps60
  go_wp2_with fail
  refine HC.out.mono ?_
  rintro e w' ⟨rfl, hb⟩
  have HB := Lib.hid hb
  clear hb
  go_wp2_with fail
  go_ret
  exact ⟨rfl, HB.out⟩
theorem firstNamed_any (p : Option Addr) (n cap pb : Nat) (L : List Src) (nm : ByteArray) (w : World) (hc : n ≤ 4611686018427387904) (hl : SrcIs w (.slice p n cap) L) (hpb : w.cell? ⟨pb, 0, none⟩ = some (.string nm)) :
    Calls Try.prog 60 #[.slice p n cap, .func (.func 66) #[] #[.pointer (some ⟨pb, 0, none⟩)]] w fun e w' => e = .returned (.int .i64 (posOf (isNamed nm) L)) ∧ Below w.heap.size w w' := by
  have HC := Lib.hid (indexNamed_any p n cap pb L nm w hc hl hpb)
  clear hl hpb
  go_enter Try.func60, Try.ntmps60
  go_wp2_with fail
  refine HC.out.mono ?_
  rintro e w' ⟨rfl, hb⟩
  have HB := Lib.hid hb
  clear hb
  go_wp2_with fail
  go_ret
  exact ⟨rfl, HB.out⟩
theorem sourceNamed_any (p : Option Addr) (n cap : Nat) (L : List Src) (nm : ByteArray) (w : World) (hc : n ≤ 4611686018427387904) (hl : SrcIs w (.slice p n cap) L) :
    Calls Try.prog 48 #[.slice p n cap, .string nm] w fun e w' => e = .returned (.int .i64 (posOf (isNamed nm) L)) ∧ Below w.heap.size w w' := by
  have hl' := hl.below ((Below.refl _ w).alloc (Nat.le_refl _) (.cells #[.string nm] 9))
  have HC := Lib.hid (firstNamed_any p n cap w.heap.size L nm (w.alloc (.cells #[.string nm] 9)) hc hl' (by simp [go_sem]))
  clear hl hl'
  go_enter Try.func48, Try.ntmps48
  go_wp2_with fail
  refine HC.out.mono ?_
  rintro e w' ⟨rfl, hb⟩
  have HB := Lib.hid hb
  clear hb
  go_wp2_with fail
  go_ret
  exact ⟨rfl, ((Below.refl _ w).alloc (Nat.le_refl _) _).trans (HB.out.mono (by simp))⟩
end Go.Proofs.Ytflcpcefjliijaa
