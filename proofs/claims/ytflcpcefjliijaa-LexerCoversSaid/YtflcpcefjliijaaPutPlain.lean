/-
  PLAIN FACTS: the reference's loops make the lists that the program makes, for valid sources. No world.
-/
import Derived.Test.YtflcpcefjliijaaApply
namespace Go.Proofs.Ytflcpcefjliijaa
set_option linter.unusedVariables false

def rpStep (nm tx : ByteArray) (x : Src) (o : List Src) (d : Bool) : List Src × Bool :=
  ((if (!d && atLeast nm x) = true then o ++ [(nm, tx)] else o) ++ (if isNamed nm x = true then [] else [x]), d || atLeast nm x)
def rp (L : List Src) (nm tx : ByteArray) : Nat → List Src × Bool
  | 0 => ([], false)
  | j + 1 => rpStep nm tx (L.getD j empty2) (rp L nm tx j).1 (rp L nm tx j).2
def rpEnd (L : List Src) (nm tx : ByteArray) : List Src := (rp L nm tx L.length).1 ++ (if (rp L nm tx L.length).2 = true then [] else [(nm, tx)])
def rd (L : List Src) (nm : ByteArray) : Nat → List Src
  | 0 => []
  | j + 1 => rd L nm j ++ (if isNamed nm (L.getD j empty2) = true then [] else [L.getD j empty2])

theorem rpStep_length (nm tx : ByteArray) (x : Src) (o : List Src) (d : Bool) : (rpStep nm tx x o d).1.length ≤ o.length + 2 := by
  unfold rpStep
  simp only [List.length_append]
  split <;> split <;> simp <;> omega
theorem rp_length (L : List Src) (nm tx : ByteArray) : ∀ j, (rp L nm tx j).1.length ≤ 2 * j
  | 0 => by simp [rp]
  | j + 1 => by
    have h1 := rp_length L nm tx j
    have h2 := rpStep_length nm tx (L.getD j empty2) (rp L nm tx j).1 (rp L nm tx j).2
    unfold rp
    omega
theorem rd_length (L : List Src) (nm : ByteArray) : ∀ j, (rd L nm j).length ≤ j
  | 0 => by simp [rd]
  | j + 1 => by
    have h1 := rd_length L nm j
    unfold rd
    rw [List.length_append]
    split <;> simp <;> omega

theorem ltS_trans {a b c : ByteArray} (h : ltS a b = true) (g : ltS b c = true) : ltS a c = true := less_trans _ _ _ h g
theorem okSrc_asc (L : List Src) (j : Nat) (h : okSrc L (j + 1) = true) : ltS (L.getD j empty2).1 (L.getD (j + 1) empty2).1 = true := by
  unfold okSrc at h
  simp only [Bool.and_eq_true, Bool.or_eq_true, decide_eq_true_eq] at h
  rcases h.2 with h | h
  · omega
  · simpa using h
theorem asc (L : List Src) (hv : validB L = true) (i : Nat) : ∀ j, i < j → j < L.length → ltS (L.getD i empty2).1 (L.getD j empty2).1 = true
  | 0, h, _ => by omega
  | j + 1, h, hj => by
    have h1 := okSrc_asc L j (validTo_le L L.length hv (j + 1) hj)
    by_cases e : i = j
    · subst e; exact h1
    · exact ltS_trans (asc L hv i j (by omega) (by omega)) h1
theorem named_eq {nm : ByteArray} {x : Src} (h : isNamed nm x = true) : x.1.toList = nm.toList := by simpa [isNamed] using h
theorem below_not_named {nm : ByteArray} {x : Src} (h : atLeast nm x = false) : isNamed nm x = false := by
  by_cases e : isNamed nm x = true
  · have := named_eq e
    unfold atLeast at h
    rw [this, less_irrefl] at h
    simp at h
  · simpa using e
theorem named_atLeast {nm : ByteArray} {x : Src} (h : isNamed nm x = true) : atLeast nm x = true := by
  unfold atLeast
  rw [named_eq h, less_irrefl]
  rfl
theorem getD_of_lt (L : List Src) (j : Nat) (h : j < L.length) : L.getD j empty2 = L[j] := by simp [List.getD, List.getElem?_eq_getElem h]
theorem take_succ_getD (L : List Src) (j : Nat) (h : j < L.length) : L.take (j + 1) = L.take j ++ [L.getD j empty2] := by
  rw [List.take_succ_eq_append_getElem h, getD_of_lt L j h]
theorem lt_findIdx (f : Src → Bool) (L : List Src) (j : Nat) (h : j < L.findIdx f) : f (L.getD j empty2) = false := by
  have hj : j < L.length := Nat.lt_of_lt_of_le h List.findIdx_le_length
  have := List.not_of_lt_findIdx h
  rw [getD_of_lt L j hj]
  simpa using this
theorem at_findIdx (f : Src → Bool) (L : List Src) (h : L.findIdx f < L.length) : f (L.getD (L.findIdx f) empty2) = true := by
  rw [getD_of_lt L _ h]
  exact List.findIdx_getElem

theorem rp_before (L : List Src) (nm tx : ByteArray) : ∀ j, j ≤ L.findIdx (atLeast nm) → rp L nm tx j = (L.take j, false)
  | 0, _ => by simp [rp]
  | j + 1, h => by
    have hl : L.findIdx (atLeast nm) ≤ L.length := List.findIdx_le_length
    have h1 := lt_findIdx (atLeast nm) L j (by omega)
    unfold rp
    rw [rp_before L nm tx j (by omega), take_succ_getD L j (by omega)]
    unfold rpStep
    rw [h1, below_not_named h1]
    simp
/-- no module behind the first one that is not below has the name -/
theorem after_not_named (L : List Src) (hv : validB L = true) (nm : ByteArray) (k j : Nat) (hk : atLeast nm (L.getD k empty2) = true) (hkj : k < j) (hj : j < L.length) : isNamed nm (L.getD j empty2) = false := by
  by_cases e : isNamed nm (L.getD j empty2) = true
  · have h1 := asc L hv k j hkj hj
    unfold ltS at h1
    rw [named_eq e] at h1
    unfold atLeast at hk
    rw [h1] at hk
    simp at hk
  · simpa using e
theorem rp_after (L : List Src) (hv : validB L = true) (nm tx : ByteArray) (hk : L.findIdx (atLeast nm) < L.length) : ∀ j, L.findIdx (atLeast nm) < j → j ≤ L.length →
    rp L nm tx j = (L.take (L.findIdx (atLeast nm)) ++ ((nm, tx) :: (L.take j).drop (L.findIdx (atLeast nm) + putGone L nm)), true)
  | 0, h, _ => by omega
  | j + 1, h, hj => by
    have ha := at_findIdx (atLeast nm) L hk
    have hg : putGone L nm = if isNamed nm (L.getD (L.findIdx (atLeast nm)) empty2) = true then 1 else 0 := by
      unfold putGone
      by_cases e : isNamed nm (L.getD (L.findIdx (atLeast nm)) empty2) = true
      · rw [if_pos e, if_pos ⟨hk, e⟩]
      · rw [if_neg e, if_neg (fun h => e h.2)]
    by_cases e : j = L.findIdx (atLeast nm)
    · unfold rp
      rw [rp_before L nm tx j (by omega), take_succ_getD L j (by omega)]
      rw [e]
      unfold rpStep
      rw [ha, hg]
      by_cases en : isNamed nm (L.getD (L.findIdx (atLeast nm)) empty2) = true
      · rw [if_pos en, if_pos en]
        have : (List.take (List.findIdx (atLeast nm) L) L ++ [L.getD (List.findIdx (atLeast nm) L) empty2]).drop (List.findIdx (atLeast nm) L + 1) = [] := by
          apply List.drop_eq_nil_of_le; simp; omega
        rw [this]
        simp
      · rw [if_neg en, if_neg en]
        have : (List.take (List.findIdx (atLeast nm) L) L ++ [L.getD (List.findIdx (atLeast nm) L) empty2]).drop (List.findIdx (atLeast nm) L + 0) = [L.getD (List.findIdx (atLeast nm) L) empty2] := by
          have hlen : (L.take (L.findIdx (atLeast nm))).length = L.findIdx (atLeast nm) := by simp; omega
          rw [Nat.add_zero, List.drop_append_of_le_length (by omega), List.drop_eq_nil_of_le (by omega)]
          rfl
        rw [this]
        simp
    · have hjk : L.findIdx (atLeast nm) < j := by omega
      have hn := after_not_named L hv nm _ j ha hjk (by omega)
      unfold rp
      rw [rp_after L hv nm tx hk j hjk (by omega), take_succ_getD L j (by omega)]
      unfold rpStep
      have hd : (L.take j ++ [L.getD j empty2]).drop (L.findIdx (atLeast nm) + putGone L nm) = (L.take j).drop (L.findIdx (atLeast nm) + putGone L nm) ++ [L.getD j empty2] := by
        rw [List.drop_append_of_le_length]
        have : putGone L nm ≤ 1 := by unfold putGone; split <;> omega
        simp; omega
      rw [hd, hn]
      simp
theorem rpEnd_eq (L : List Src) (hv : validB L = true) (nm tx : ByteArray) : rpEnd L nm tx = putL L nm tx := by
  unfold rpEnd putL putAt
  by_cases hk : L.findIdx (atLeast nm) < L.length
  · rw [rp_after L hv nm tx hk L.length hk (Nat.le_refl _)]
    simp
  · have hl : L.findIdx (atLeast nm) ≤ L.length := List.findIdx_le_length
    have e : L.findIdx (atLeast nm) = L.length := by omega
    have hg : putGone L nm = 0 := by unfold putGone; rw [if_neg (fun h => hk h.1)]
    rw [rp_before L nm tx L.length (by omega), hg, e]
    simp

theorem rd_before (L : List Src) (nm : ByteArray) : ∀ j, j ≤ L.findIdx (isNamed nm) → rd L nm j = L.take j
  | 0, _ => by simp [rd]
  | j + 1, h => by
    have hl : L.findIdx (isNamed nm) ≤ L.length := List.findIdx_le_length
    have h1 := lt_findIdx (isNamed nm) L j (by omega)
    unfold rd
    rw [rd_before L nm j (by omega), take_succ_getD L j (by omega), h1]
    simp
theorem rd_after (L : List Src) (hv : validB L = true) (nm : ByteArray) (hk : L.findIdx (isNamed nm) < L.length) : ∀ j, L.findIdx (isNamed nm) < j → j ≤ L.length →
    rd L nm j = L.take (L.findIdx (isNamed nm)) ++ (L.take j).drop (L.findIdx (isNamed nm) + 1)
  | 0, h, _ => by omega
  | j + 1, h, hj => by
    have ha := at_findIdx (isNamed nm) L hk
    by_cases e : j = L.findIdx (isNamed nm)
    · unfold rd
      rw [rd_before L nm j (by omega), take_succ_getD L j (by omega), e, ha]
      have : (List.take (List.findIdx (isNamed nm) L) L ++ [L.getD (List.findIdx (isNamed nm) L) empty2]).drop (List.findIdx (isNamed nm) L + 1) = [] := by
        apply List.drop_eq_nil_of_le; simp; omega
      rw [this]
      simp
    · have hjk : L.findIdx (isNamed nm) < j := by omega
      have hn := after_not_named L hv nm _ j (named_atLeast ha) hjk (by omega)
      unfold rd
      rw [rd_after L hv nm hk j hjk (by omega), take_succ_getD L j (by omega), hn]
      have hd : (L.take j ++ [L.getD j empty2]).drop (L.findIdx (isNamed nm) + 1) = (L.take j).drop (L.findIdx (isNamed nm) + 1) ++ [L.getD j empty2] := by
        rw [List.drop_append_of_le_length]
        simp; omega
      rw [hd]
      simp
theorem rd_eq (L : List Src) (hv : validB L = true) (nm : ByteArray) (hf : findB L nm = true) : rd L nm L.length = dropL L nm := by
  have hk : L.findIdx (isNamed nm) < L.length := by simpa [findB] using hf
  rw [rd_after L hv nm hk L.length hk (Nat.le_refl _)]
  unfold dropL
  simp

theorem eq_of_toList {a b : ByteArray} (h : a.toList = b.toList) : a = b := by
  rw [Lib.toList_data, Lib.toList_data] at h
  rw [← Lib.mk_data a, ← Lib.mk_data b, h]
/-- Put of a name that is there puts it where it is -/
theorem put_there (L : List Src) (hv : validB L = true) (m now : ByteArray) (hf : findB L m = true) (hs : now.size ≤ 20000) :
    putR L m now = (L.take (L.findIdx (isNamed m)) ++ ((m, now) :: L.drop (L.findIdx (isNamed m) + 1)), 0) := by
  have hk : L.findIdx (isNamed m) < L.length := by simpa [findB] using hf
  have ha := at_findIdx (isNamed m) L hk
  have hidx : L.findIdx (atLeast m) = L.findIdx (isNamed m) := by
    rw [List.findIdx_eq hk]
    refine ⟨by rw [← getD_of_lt L _ hk]; exact named_atLeast ha, fun i hi => ?_⟩
    have h1 := asc L hv i _ hi hk
    unfold ltS at h1
    rw [named_eq ha] at h1
    rw [← getD_of_lt L i (by omega)]
    unfold atLeast
    rw [h1]
    rfl
  have hg : putGone L m = 1 := by unfold putGone; rw [if_pos]; rw [hidx]; exact ⟨hk, ha⟩
  have hpm : permB (m, now) = true := by
    have h1 := valid_perm L hv _ hk
    have h2 : (L.getD (L.findIdx (isNamed m)) empty2).1 = m := eq_of_toList (named_eq ha)
    unfold permB at h1 ⊢
    rw [h2] at h1
    simp only [Bool.and_eq_true, decide_eq_true_eq] at h1 ⊢
    exact ⟨h1.1, hs⟩
  unfold putR
  rw [if_pos hv, if_pos hpm]
  unfold putL putAt
  rw [hidx, hg]
end Go.Proofs.Ytflcpcefjliijaa
