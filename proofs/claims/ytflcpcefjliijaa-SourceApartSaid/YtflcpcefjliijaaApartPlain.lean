/-
  PLAIN FACTS: edits of texts, one after the other and back; a difference, applied; edits of programs of one to three modules.
-/
import Derived.Test.YtflcpcefjliijaaApply
import Derived.Test.YtflcpcefjliijaaWrong
import Derived.Test.YtflcpcefjliijaaDiff
import Derived.Test.YtflcpcefjliijaaLexPlain
namespace Go.Proofs.Ytflcpcefjliijaa
open Go Go.RowKit
set_option linter.unusedVariables false
set_option linter.unusedSimpArgs false

/-- an edit of bytes -/
def editL (l : List UInt8) (a c : Nat) (t : List UInt8) : List UInt8 := l.take a ++ (t ++ l.drop (a + c))
theorem editL_split (p q r t : List UInt8) (a c : Nat) (ha : a = p.length) (hc : c = q.length) : editL (p ++ (q ++ r)) a c t = p ++ (t ++ r) := by
  subst ha; subst hc
  unfold editL
  rw [List.take_left, ← List.append_assoc p q r, ← List.length_append, List.drop_left]
theorem editText_data (s tx : ByteArray) (a c : Nat) : (editText s (a : Int) (c : Int) tx).data.toList = editL s.data.toList a c tx.data.toList := by
  unfold editText editL
  have e1 : ((a : Int)).toNat = a := Int.toNat_natCast a
  have e2 : ((a : Int) + (c : Int)).toNat = a + c := by omega
  rw [e1, e2, ByteArray.data_append, ByteArray.data_append, Array.toList_append, Array.toList_append, Lx.data_extract, Lx.data_from, List.append_assoc, List.drop_zero, Nat.sub_zero]
theorem bytes_eq {x y : ByteArray} (h : x.data.toList = y.data.toList) : x = y := by rw [← Lx.mk_of x, ← Lx.mk_of y, h]
theorem editText_size (s tx : ByteArray) (a c : Nat) (h : a + c ≤ s.size) : (editText s (a : Int) (c : Int) tx).size = s.size - c + tx.size := by
  rw [← Lx.size_data, editText_data]
  unfold editL
  rw [List.length_append, List.length_append, List.length_take, List.length_drop, Lx.size_data, Lx.size_data]
  omega
theorem split3 (l : List UInt8) (a c : Nat) (h : a + c ≤ l.length) : ∃ p q r : List UInt8, l = p ++ (q ++ r) ∧ p.length = a ∧ q.length = c ∧ q = (l.drop a).take c := by
  refine ⟨l.take a, (l.drop a).take c, (l.drop a).drop c, by rw [List.take_append_drop, List.take_append_drop], ?_, ?_, rfl⟩
  · rw [List.length_take]; omega
  · rw [List.length_take, List.length_drop]; omega
/-- an edit and the one back -/
theorem edit_back (s tx : ByteArray) (a c : Nat) (h : a + c ≤ s.size) : editText (editText s (a : Int) (c : Int) tx) (a : Int) (tx.size : Int) (s.extract a (a + c)) = s := by
  apply bytes_eq
  rw [editText_data, editText_data, Lx.data_extract, Nat.add_sub_cancel_left]
  obtain ⟨p, q, r, e, h1, h2, h3⟩ := split3 s.data.toList a c (by rw [Lx.size_data]; exact h)
  rw [← h3, e, editL_split p q r _ a c h1.symm h2.symm, editL_split p tx.data.toList r _ a tx.size h1.symm (Lx.size_data tx).symm]
/-- two edits, in any order -/
theorem edit_swap (s t1 t2 : ByteArray) (a1 c1 a2 c2 : Nat) (h : a1 + c1 ≤ a2) (h2 : a2 + c2 ≤ s.size) :
    editText (editText s (a1 : Int) (c1 : Int) t1) ((a2 - c1 + t1.size : Nat) : Int) (c2 : Int) t2 = editText (editText s (a2 : Int) (c2 : Int) t2) (a1 : Int) (c1 : Int) t1 := by
  apply bytes_eq
  rw [editText_data, editText_data, editText_data, editText_data]
  obtain ⟨p, q, m, e, hp, hq, _⟩ := split3 s.data.toList a1 c1 (by rw [Lx.size_data]; omega)
  have hm : m.length = s.size - a1 - c1 := by
    have := congrArg List.length e
    rw [Lx.size_data, List.length_append, List.length_append] at this
    omega
  obtain ⟨r, u, v, e2, hr, hu, _⟩ := split3 m (a2 - a1 - c1) c2 (by omega)
  subst e2
  rw [e, editL_split p q _ _ a1 c1 hp.symm hq.symm]
  have x1 : p ++ (t1.data.toList ++ (r ++ (u ++ v))) = (p ++ (t1.data.toList ++ r)) ++ (u ++ v) := by simp
  have x2 : p ++ (q ++ (r ++ (u ++ v))) = (p ++ (q ++ r)) ++ (u ++ v) := by simp
  rw [x1, editL_split _ u v _ _ c2 (by rw [List.length_append, List.length_append, Lx.size_data]; omega) hu.symm, x2, editL_split _ u v _ a2 c2 (by rw [List.length_append, List.length_append]; omega) hu.symm]
  have x3 : p ++ (q ++ r) ++ (t2.data.toList ++ v) = p ++ (q ++ (r ++ (t2.data.toList ++ v))) := by simp
  rw [x3, editL_split p q _ _ a1 c1 hp.symm hq.symm]
  simp

theorem take_pre : ∀ l m : List UInt8, l.take (Plain.pre l m) = m.take (Plain.pre l m) := by
  intro l m
  apply List.ext_getElem?
  intro j
  rw [List.getElem?_take, List.getElem?_take]
  split
  · rename_i h
    exact Plain.pre_get l m j h
  · rfl
/-- a difference, applied -/
theorem edit_diff (a b : ByteArray) : editText a (editAt a b : Nat) ((a.size - editAt a b - editEnd a b : Nat) : Int) (b.extract (editAt a b) (b.size - editEnd a b)) = b := by
  have k1 := editEnd_left a b
  have k2 := editEnd_right a b
  apply bytes_eq
  rw [editText_data, Lx.data_extract]
  have hp : a.data.toList.take (editAt a b) = b.data.toList.take (editAt a b) := take_pre _ _
  have hs : a.data.toList.drop (a.size - editEnd a b) = b.data.toList.drop (b.size - editEnd a b) := by
    have h := take_pre (a.extract (editAt a b) a.size).data.toList.reverse (b.extract (editAt a b) b.size).data.toList.reverse
    change List.take (editEnd a b) _ = List.take (editEnd a b) _ at h
    rw [Lx.data_from, Lx.data_from, List.take_reverse, List.take_reverse, List.reverse_inj, List.length_drop, List.length_drop, List.drop_drop, List.drop_drop, Lx.size_data, Lx.size_data] at h
    rw [show editAt a b + (a.size - editAt a b - editEnd a b) = a.size - editEnd a b by omega, show editAt a b + (b.size - editAt a b - editEnd a b) = b.size - editEnd a b by omega] at h
    exact h
  unfold editL
  rw [show editAt a b + (a.size - editAt a b - editEnd a b) = a.size - editEnd a b by omega, hp, hs]
  have e : b.data.toList.drop (b.size - editEnd a b) = (b.data.toList.drop (editAt a b)).drop (b.size - editEnd a b - editAt a b) := by rw [List.drop_drop]; congr 1; omega
  rw [e, List.take_append_drop, List.take_append_drop]
theorem diff_err (a b : ByteArray) (hb : b.size ≤ 20000) : editErr a.size (editAt a b : Nat) ((a.size - editAt a b - editEnd a b : Nat) : Int) (b.extract (editAt a b) (b.size - editEnd a b)).size = 0 := by
  have k1 := editEnd_left a b
  have k2 := editEnd_right a b
  unfold editErr
  rw [ByteArray.size_extract, if_neg (by omega), if_neg (by omega)]

/-- a program of k modules with these texts -/
def PL (k : Nat) (T : Nat → ByteArray) : List Src := (List.range k).map fun i => (letterOf i, T i)
theorem PL_len (k : Nat) (T : Nat → ByteArray) : (PL k T).length = k := by simp [PL]
theorem PL_at (k : Nat) (T : Nat → ByteArray) (i : Nat) (hi : i < k) : (PL k T).getD i empty2 = (letterOf i, T i) := by simp [PL, List.getD, hi]
theorem PL_of {k : Nat} {L : List Src} (h : L.map Prod.fst = (List.range k).map letterOf) : L = PL k (fun i => (L.getD i empty2).2) := by
  have hl : L.length = k := by have := congrArg List.length h; simpa using this
  apply List.ext_getElem?
  intro i
  unfold PL
  rw [List.getElem?_map]
  by_cases hi : i < k
  · have e := congrArg (fun l => l[i]?) h
    simp only [List.getElem?_map, List.getElem?_eq_getElem (show i < L.length by omega), List.getElem?_range hi, Option.map_some, Option.some.injEq] at e
    rw [List.getElem?_eq_getElem (show i < L.length by omega), List.getElem?_range hi, Option.map_some]
    have e2 : L.getD i empty2 = L[i] := by simp [List.getD, List.getElem?_eq_getElem (show i < L.length by omega)]
    show some L[i] = some (letterOf i, (L.getD i empty2).2)
    rw [e2, ← e]
  · rw [List.getElem?_eq_none (by omega), List.getElem?_eq_none (by simpa using hi)]; rfl
def updT (T : Nat → ByteArray) (i : Nat) (x : ByteArray) : Nat → ByteArray := fun j => if j = i then x else T j
theorem updT_same (T : Nat → ByteArray) (i : Nat) (x : ByteArray) : updT T i x i = x := by simp [updT]
theorem updT_ne (T : Nat → ByteArray) {i j : Nat} (x : ByteArray) (h : j ≠ i) : updT T i x j = T j := by simp [updT, h]

theorem name0 : nameB (letterOf 0) = true := by kernel_rfl
theorem name1 : nameB (letterOf 1) = true := by kernel_rfl
theorem name2 : nameB (letterOf 2) = true := by kernel_rfl
theorem lt01 : ltS (letterOf 0) (letterOf 1) = true := by kernel_rfl
theorem lt12 : ltS (letterOf 1) (letterOf 2) = true := by kernel_rfl
theorem valid_PL (k : Nat) (T : Nat → ByteArray) (hk : k ≤ 3) (h : ∀ i, i < k → (T i).size ≤ 20000) : validB (PL k T) = true := by
  match k, hk with
  | 0, _ => rfl
  | 1, _ =>
    have h0 := h 0 (by omega)
    simp [validB, validTo, okSrc, permB, PL, List.range_succ, name0, h0]
  | 2, _ =>
    have h0 := h 0 (by omega)
    have h1 := h 1 (by omega)
    simp [validB, validTo, okSrc, permB, PL, List.range_succ, name0, name1, lt01, h0, h1]
  | 3, _ =>
    have h0 := h 0 (by omega)
    have h1 := h 1 (by omega)
    have h2 := h 2 (by omega)
    simp [validB, validTo, okSrc, permB, PL, List.range_succ, name0, name1, name2, lt01, lt12, h0, h1, h2]
theorem named_PL (i j : Nat) (x : ByteArray) (hi : i < 3) (hj : j < 3) : isNamed (letterOf i) (letterOf j, x) = decide (j = i) := by
  show ((letterOf j).toList == (letterOf i).toList) = decide (j = i)
  exact match i, j, hi, hj with
  | 0, 0, _, _ => by kernel_rfl
  | 0, 1, _, _ => by kernel_rfl
  | 0, 2, _, _ => by kernel_rfl
  | 1, 0, _, _ => by kernel_rfl
  | 1, 1, _, _ => by kernel_rfl
  | 1, 2, _, _ => by kernel_rfl
  | 2, 0, _, _ => by kernel_rfl
  | 2, 1, _, _ => by kernel_rfl
  | 2, 2, _, _ => by kernel_rfl
theorem idx_PL (k i : Nat) (T : Nat → ByteArray) (hk : k ≤ 3) (hi : i < k) : (PL k T).findIdx (isNamed (letterOf i)) = i := by
  have n : ∀ j x, j < 3 → isNamed (letterOf i) (letterOf j, x) = decide (j = i) := fun j x hj => named_PL i j x (by omega) hj
  match k, hk, i, hi with
  | 1, _, 0, _ => simp [PL, List.range_succ, List.findIdx_cons, n]
  | 2, _, 0, _ => simp [PL, List.range_succ, List.findIdx_cons, n]
  | 2, _, 1, _ => simp [PL, List.range_succ, List.findIdx_cons, n]
  | 3, _, 0, _ => simp [PL, List.range_succ, List.findIdx_cons, n]
  | 3, _, 1, _ => simp [PL, List.range_succ, List.findIdx_cons, n]
  | 3, _, 2, _ => simp [PL, List.range_succ, List.findIdx_cons, n]
theorem set_PL (k i : Nat) (T : Nat → ByteArray) (x : ByteArray) (hi : i < k) : (PL k T).take i ++ ((letterOf i, x) :: (PL k T).drop (i + 1)) = PL k (updT T i x) := by
  have hl := PL_len k T
  apply List.ext_getElem?
  intro j
  rw [List.getElem?_append, List.length_take, hl, Nat.min_eq_left (by omega)]
  have e : ∀ U : Nat → ByteArray, (PL k U)[j]? = if j < k then some (letterOf j, U j) else none := by
    intro U
    unfold PL
    rw [List.getElem?_map]
    split
    · rw [List.getElem?_range ‹_›]; rfl
    · rw [List.getElem?_eq_none (by simp; omega)]; rfl
  split
  · rename_i h
    rw [List.getElem?_take, if_pos h, e, e, if_pos (by omega), if_pos (by omega), updT_ne T x (by omega)]
  · rename_i h
    by_cases hj : j = i
    · subst hj
      rw [Nat.sub_self, e, if_pos hi, updT_same]; rfl
    · rw [show j - i = (j - i - 1) + 1 by omega, List.getElem?_cons_succ, List.getElem?_drop, show i + 1 + (j - i - 1) = j by omega, e, e, updT_ne T x hj]
theorem apply_PL (k i : Nat) (T : Nat → ByteArray) (a c : Int) (tx : ByteArray) (hk : k ≤ 3) (hi : i < k) (h : ∀ j, j < k → (T j).size ≤ 20000) (he : editErr (T i).size a c tx.size = 0) :
    applyR (PL k T) (letterOf i) a c tx = (PL k (updT T i (editText (T i) a c tx)), 0) := by
  have h1 := valid_PL k T hk h
  have h2 := idx_PL k i T hk hi
  have h3 : findB (PL k T) (letterOf i) = true := by unfold findB; rw [h2, PL_len]; exact decide_eq_true hi
  have h4 : findT (PL k T) (letterOf i) = T i := by unfold findT; rw [h2, PL_len, if_pos hi, PL_at k T i hi]
  unfold applyR
  rw [if_pos h1, if_pos h3, h4, if_pos he, h2]
  unfold editRes
  rw [if_pos he, set_PL k i T _ hi]
theorem letter_inj (i j : Nat) (hi : i < 3) (hj : j < 3) : ((letterOf i).toList == (letterOf j).toList) = decide (i = j) := named_PL j i ByteArray.empty hj hi
/-- one module named m -/
theorem name_m : nameB ⟨#[109]⟩ = true := by kernel_rfl
theorem apply_one (old tx : ByteArray) (a c : Int) (h : old.size ≤ 20000) (he : editErr old.size a c tx.size = 0) : applyR [(⟨#[109]⟩, old)] ⟨#[109]⟩ a c tx = ([(⟨#[109]⟩, editText old a c tx)], 0) := by
  have h1 : validB [((⟨#[109]⟩ : ByteArray), old)] = true := by simp [validB, validTo, okSrc, permB, name_m, h]
  have hn : isNamed ⟨#[109]⟩ ((⟨#[109]⟩ : ByteArray), old) = true := by show ((⟨#[109]⟩ : ByteArray).toList == (⟨#[109]⟩ : ByteArray).toList) = true; exact beq_self_eq_true _
  have h2 : [((⟨#[109]⟩ : ByteArray), old)].findIdx (isNamed ⟨#[109]⟩) = 0 := by rw [List.findIdx_cons, hn]; rfl
  have h3 : findB [((⟨#[109]⟩ : ByteArray), old)] ⟨#[109]⟩ = true := by unfold findB; rw [h2]; rfl
  have h4 : findT [((⟨#[109]⟩ : ByteArray), old)] ⟨#[109]⟩ = old := by unfold findT; rw [h2]; rfl
  unfold applyR
  rw [if_pos h1, if_pos h3, h4, if_pos he, h2]
  unfold editRes
  rw [if_pos he]
  rfl
end Go.Proofs.Ytflcpcefjliijaa
