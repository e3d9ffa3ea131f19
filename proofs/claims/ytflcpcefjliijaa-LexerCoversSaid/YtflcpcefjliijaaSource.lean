/-
  CONTRACTS: source.Find, Put, Drop and Apply.
-/
import Derived.Test.YtflcpcefjliijaaSearch
import Derived.Test.YtflcpcefjliijaaSplice
namespace Go.Proofs.Ytflcpcefjliijaa
open Go.RowKit
set_option linter.unusedVariables false

theorem SrcIs.liesAt {w : World} {p : Option Addr} {n cap : Nat} {L : List Src} (h : SrcIs w (.slice p n cap) L) : n = L.length ∧ n ≤ cap ∧ cap ≤ maxLen ∧ LiesAt w p L := by
  obtain ⟨h1, h2, h3, h4⟩ := h.lies
  subst h1
  exact ⟨rfl, h2, h3, h4⟩

/-- splice with nothing to bring in -/
theorem splice_none (p : Option Addr) (n cap at_ c : Nat) (L : List Src) (w : World) (hl : SrcIs w (.slice p n cap) L) (hat : at_ + c ≤ n) (hsz : n ≤ 900000000) :
    Calls Try.prog 50 #[.slice p n cap, .int .i64 (at_ : Nat), .int .i64 (c : Nat), .slice none 0 0] w fun e w' =>
      ∃ v, e = .returned v ∧ SrcIs w' v (L.take at_ ++ L.drop (at_ + c)) ∧ Below w.heap.size w w' := by
  obtain ⟨h1, h2, h3, h4⟩ := hl.liesAt
  subst h1
  have := splice_any p none cap 0 at_ c L [] w h2 h3 (Nat.le_refl _) (Nat.zero_le _) h4 (fun h => absurd h (by decide)) hat (by simpa using (by omega : L.length ≤ 1000000000))
  simpa using this
/-- splice with one module to bring in -/
theorem splice_one (p : Option Addr) (n cap at_ c b2 : Nat) (L : List Src) (nm tx : ByteArray) (w : World) (hl : SrcIs w (.slice p n cap) L) (hat : at_ + c ≤ n) (hsz : n ≤ 900000000)
    (g1 : w.cell? ⟨b2, 0, none⟩ = some (.string nm)) (g2 : w.cell? ⟨b2, 1, none⟩ = some (.string tx)) :
    Calls Try.prog 50 #[.slice p n cap, .int .i64 (at_ : Nat), .int .i64 (c : Nat), .slice (some ⟨b2, 0, none⟩) 1 1] w fun e w' =>
      ∃ v, e = .returned v ∧ SrcIs w' v (L.take at_ ++ ((nm, tx) :: L.drop (at_ + c))) ∧ Below w.heap.size w w' := by
  obtain ⟨h1, h2, h3, h4⟩ := hl.liesAt
  subst h1
  have := splice_any p (some ⟨b2, 0, none⟩) cap 1 at_ c L [(nm, tx)] w h2 h3 (Nat.le_refl _) (by unfold maxLen; omega) h4 (fun _ => ⟨_, _, rfl, fun j v hj => by
      match j with
      | 0 => simp [srcCells] at hj; subst hj; exact g1
      | 1 => simp [srcCells] at hj; subst hj; exact g2
      | j + 2 => simp [srcCells] at hj⟩) hat (by simpa using (by omega : L.length + 1 ≤ 1000000000))
  simpa using this

def ListOf (w0 : World) (L : List Src) (e : Ending) (w' : World) : Prop := ∃ v, e = .returned v ∧ SrcIs w' v L ∧ Below w0.heap.size w0 w'
def ListAnd (w0 : World) (L : List Src) (er : Int) (e : Ending) (w' : World) : Prop := ∃ v, e = .returned (.tuple #[v, .int .i64 er]) ∧ SrcIs w' v L ∧ Below w0.heap.size w0 w'

theorem unchanged_any (p : Option Addr) (n cap : Nat) (L : List Src) (w : World) (hl : SrcIs w (.slice p n cap) L) (hsz : n ≤ 900000000) :
    Calls Try.prog 47 #[.slice p n cap] w (ListOf w L) := by
  have HC := Lib.hid (splice_none p n cap 0 0 L w hl (by omega) hsz)
  clear hl
  go_enter Try.func47, Try.ntmps47
  go_wp2_with fail
  refine HC.out.mono ?_
  rintro e w' ⟨v, rfl, hs, hb⟩
  have HS := Lib.hid hs
  have HB := Lib.hid hb
  clear hs hb
  go_wp2_with fail
  go_ret
  exact ⟨_, rfl, by simpa using HS.out, HB.out⟩

def findT (L : List Src) (nm : ByteArray) : ByteArray := if L.findIdx (isNamed nm) < L.length then (L.getD (L.findIdx (isNamed nm)) empty2).2 else ⟨#[]⟩
def findB (L : List Src) (nm : ByteArray) : Bool := decide (L.findIdx (isNamed nm) < L.length)

theorem find_any (p : Option Addr) (n cap : Nat) (L : List Src) (nm : ByteArray) (w : World) (hc : n ≤ 4611686018427387904) (hl : SrcIs w (.slice p n cap) L) :
    Calls Try.prog 42 #[.slice p n cap, .string nm] w fun e w' => e = .returned (.tuple #[.string (findT L nm), .bool (findB L nm)]) ∧ Below w.heap.size w w' := by
  have HC := Lib.hid (sourceNamed_any p n cap L nm w hc hl)
  obtain ⟨hn, hc1, hc2, hlies⟩ := hl.lies
  have hT : findT L nm = if L.findIdx (isNamed nm) < L.length then (L.getD (L.findIdx (isNamed nm)) empty2).2 else ⟨#[]⟩ := rfl
  have hB : findB L nm = decide (L.findIdx (isNamed nm) < L.length) := rfl
  have hP : posOf (isNamed nm) L = if L.findIdx (isNamed nm) < L.length then (L.findIdx (isNamed nm) : Int) else -1 := rfl
  by_cases hk : L.findIdx (isNamed nm) < L.length
  · rw [if_pos hk] at hT hP
    rw [decide_eq_true hk] at hB
    have HT := Lib.hid hT
    have HB := Lib.hid hB
    have HP := Lib.hid hP
    obtain ⟨b, off, rfl, hcells⟩ := hlies (by omega)
    have hct : ∀ w', Below w.heap.size w w' → w'.cell? ⟨b, off + (L.findIdx (isNamed nm)) * 2 + 1, none⟩ = some (.string (L.getD (L.findIdx (isNamed nm)) empty2).2) := fun w' hb => (hcells.below hb).text _ hk
    generalize L.findIdx (isNamed nm) = k at *
    have HCT := Lib.hid hct
    have hkn : k < n := by omega
    have hki : (k : Int) < (n : Int) := by omega
    generalize (L.getD k empty2).2 = tx at *
    have Hl := Lib.hid hl
    have Hn := Lib.hid hn
    have Hcells := Lib.hid hcells
    have Hlies := Lib.hid hlies
    clear hT hB hP hl hn hcells hlies hct hk
    go_enter Try.func42, Try.ntmps42
    go_wp2_with fail
    refine HC.out.mono ?_
    rintro e w1 ⟨rfl, hb⟩
    rw [HP.out]
    have h1 := HCT.out w1 hb
    have HB1 := Lib.hid hb
    clear hb
    go_wp2_with fail
    go_ret2
    exact ⟨by rw [HT.out, HB.out]; rfl, HB1.out⟩
  · rw [if_neg hk] at hT hP
    rw [decide_eq_false hk] at hB
    have HT := Lib.hid hT
    have HB := Lib.hid hB
    have HP := Lib.hid hP
    clear hT hB hP hl hn hlies hk
    go_enter Try.func42, Try.ntmps42
    go_wp2_with fail
    refine HC.out.mono ?_
    rintro e w1 ⟨rfl, hb⟩
    rw [HP.out]
    have HB1 := Lib.hid hb
    clear hb
    go_wp2_with fail
    go_ret2
    exact ⟨by rw [HT.out, HB.out]; rfl, HB1.out⟩
end Go.Proofs.Ytflcpcefjliijaa
