/-
  PLAIN: the items of two texts without errors, one after the other, with a wrong item between them or not.
-/
import Derived.Test.YtheigpiffdabnaaGreatZJ1
import Derived.Test.YtheigpiffdabnaaGreatZR7
set_option linter.unusedSimpArgs false
set_option linter.unusedVariables false
namespace Go.Proofs.YtheigpiffdabnaaGreat
open Go Go.RowKit
/-- what was read before stands ahead -/
theorem modM_pre {L : List Lx.Tok} {p : PM Tree} (pre : List Tree) : ∀ (f k : Nat) (ts : List Tree) (es : List Int) (z : List Tree × List Int), modM L p f k ts es = some z → modM L p f k (pre ++ ts) es = some (pre ++ z.1, z.2)
 | 0, k, ts, es, z, h => by cases h
 | f + 1, k, ts, es, z, h => by
  unfold modM at h ⊢
  by_cases h0 : (L.getD k tok0).kind = 0
  ·rw [if_pos h0] at h ⊢
   simp only [Option.some.injEq] at h
   rw [← h]
  ·rw [if_neg h0] at h ⊢
   cases hp : p k with
   | ok y =>
    obtain ⟨t, j⟩ := y
    rw [hp] at h
    have := modM_pre pre f j (ts ++ [t]) es z h
    rw [← List.append_assoc] at this
    exact this
   | error j =>
    rw [hp] at h
    exact modM_pre pre f _ ts _ z h
def ktT (t : Lx.Tok) : Int × ByteArray := (t.kind, t.text)
/-- an item begins with one of the words -/
theorem item_begins {r : Rdr} {i : Nat} {t : Tree} {j : Nat} (h : itemT r i = .ok (t, j)) : begins (r.L.getD i tok0).text = true := by
 cases hb : begins (r.L.getD i tok0).text with
 | true => rfl
 | false =>
  exfalso
  unfold begins at hb
  simp only [Bool.or_eq_false_iff] at hb
  obtain ⟨⟨⟨⟨⟨⟨⟨h0, h1⟩, h2⟩, h3⟩, h4⟩, h5⟩, h6⟩, h7⟩ := hb
  have e := (item_at r i).trans itemM_eq
  rw [h0, h1, h2, h3, h4, h5, h6, h7] at e
  rw [e] at h
  cases h
theorem Nxt.of_begins {r : Rdr} {k : Nat} (h : begins (r.L.getD k tok0).text = true) (hk : (r.L.getD k tok0).kind = 2) : Nxt r k := by
 refine ⟨by rw [hk]; decide, ?_, .inr h⟩
 cases hm : isMark r k ⟨#[41]⟩ with
 | false => rfl
 | true =>
  rw [mark_text hm] at h
  have : begins ⟨#[41]⟩ = false := by kernel_rfl
  rw [this] at h
  cases h
theorem Nxt.of_end {r : Rdr} {k : Nat} (hk : (r.L.getD k tok0).kind = 0) (ht : (r.L.getD k tok0).text = ByteArray.empty) : Nxt r k := by
 refine ⟨by rw [hk]; decide, ?_, .inl hk⟩
 unfold isMark
 rw [ht]
 kernel_rfl
/-- a wrong item by its tokens: one error, and reading goes on behind it -/
def Bad (K : List (Int × ByteArray)) : Prop := ∀ (r : Rdr) (s : Nat), (∀ i (h : i < K.length), Tk r (s + i) K[i].1 K[i].2) → Nxt r (s + K.length) → s + K.length < r.L.length → (r.L.getD s tok0).kind ≠ 0 ∧ ∃ j, itemT r s = .error j ∧ resP r.L s (r.L.length + 1) j = s + K.length
theorem getD_map {L : List Lx.Tok} {M : List (Int × ByteArray)} (h : L.map ktT = M) {i : Nat} (hi : i < L.length) : (L.getD i tok0).kind = (M.getD i (0, ByteArray.empty)).1 ∧ (L.getD i tok0).text = (M.getD i (0, ByteArray.empty)).2 := by
 subst h
 rw [getD_eq _ _ _ hi, List.getD_eq_getElem?_getD, List.getElem?_map, List.getElem?_eq_getElem hi]
 exact ⟨rfl, rfl⟩
theorem getD_left {A B : List Lx.Tok} {i : Nat} (h : i < A.length) : (A ++ B).getD i tok0 = A.getD i tok0 := by
 rw [List.getD_eq_getElem?_getD, List.getElem?_append_left h, ← List.getD_eq_getElem?_getD]
theorem getD_right {A B : List Lx.Tok} {i : Nat} : (A ++ B).getD (A.length + i) tok0 = B.getD i tok0 := by
 rw [List.getD_eq_getElem?_getD, List.getElem?_append_right (by omega), Nat.add_sub_cancel_left, ← List.getD_eq_getElem?_getD]
set_option maxHeartbeats 2000000 in
theorem mod_join {TA TB TB' A0 W0 : List Lx.Tok} {eA : Lx.Tok} {K : List (Int × ByteArray)} {x y : List Tree} (hTA : Toks TA) (hTB : Toks TB) (hT : Toks (A0 ++ (W0 ++ TB')))
  (hA0 : TA = A0 ++ [eA]) (heA : eA.kind = 0) (hW0 : W0.map ktT = K) (hB' : TB'.map ktT = TB.map ktT) (hBw : BegW TB) (hK : K = [] ∨ Bad K)
  (hx : modV TA (itemT (core TA)) = some (x, [])) (hy : modV TB (itemT (core TB)) = some (y, [])) :
  ∃ z g, modV (A0 ++ (W0 ++ TB')) (itemT (core (A0 ++ (W0 ++ TB')))) = some (z, g) ∧ LR PA (x ++ y) z ∧ (g = [] ↔ K = []) := by
 obtain ⟨L, hL⟩ : ∃ L, A0 ++ (W0 ++ TB') = L := ⟨_, rfl⟩
 rw [hL] at hT ⊢
 obtain ⟨B0, eB, hB0, hBk⟩ := hTB.ends
 have lA : TA.length = A0.length + 1 := by rw [hA0]; simp
 have lB : TB.length = B0.length + 1 := by rw [hB0]; simp
 have lB' : TB'.length = TB.length := by have := congrArg List.length hB'; simpa using this
 have lW : W0.length = K.length := by have := congrArg List.length hW0; simpa using this
 have lL : L.length = A0.length + (W0.length + (B0.length + 1)) := by rw [← hL]; simp only [List.length_append]; omega
 have gA : ∀ i, i < A0.length → L.getD (0 + i) tok0 = TA.getD i tok0 := fun i hi => by rw [Nat.zero_add, ← hL, hA0, getD_left hi, getD_left hi]
 have gW : ∀ i, i < W0.length → L.getD (A0.length + i) tok0 = W0.getD i tok0 := fun i hi => by rw [← hL, getD_right, getD_left hi]
 have gB : ∀ i, L.getD (A0.length + W0.length + i) tok0 = TB'.getD i tok0 := fun i => by rw [← hL, Nat.add_assoc, getD_right, getD_right]
 have gB2 : ∀ i, i < TB.length → (L.getD (A0.length + W0.length + i) tok0).kind = (TB.getD i tok0).kind ∧ (L.getD (A0.length + W0.length + i) tok0).text = (TB.getD i tok0).text := fun i hi => by
  rw [gB]
  have h1 := getD_map hB' (i := i) (by omega)
  have h2 := getD_map (L := TB) rfl hi
  exact ⟨h1.1.trans h2.1.symm, h1.2.trans h2.2.symm⟩
 have kA : ∀ i, i < A0.length → ((core TA).L.getD i tok0).kind ≠ 0 := fun i hi => by
  obtain ⟨D, e, hD, hDk⟩ := hTA.ends
  have hl : D.length = A0.length := by have := congrArg List.length hD; simp at this; omega
  show (TA.getD i tok0).kind ≠ 0
  rw [hD, getD_left (by omega), getD_eq _ _ _ (by omega)]
  exact (hDk _ (List.getElem_mem _)).1
 have kB : ∀ i, i < B0.length → ((core TB).L.getD i tok0).kind ≠ 0 := fun i hi => by
  show (TB.getD i tok0).kind ≠ 0
  rw [hB0, getD_left hi, getD_eq _ _ _ hi]
  exact (hBk _ (List.getElem_mem _)).1
 have SA : Seg (core TA) (core L) 0 A0.length := ⟨fun i hi => by show (L.getD (0 + i) tok0).kind = _; rw [gA i hi]; rfl, fun i hi => by show (L.getD (0 + i) tok0).text = _; rw [gA i hi]; rfl, by show TA.length ≤ L.length; omega⟩
 have SB : Seg (core TB) (core L) (A0.length + W0.length) B0.length := ⟨fun i hi => (gB2 i (by omega)).1, fun i hi => (gB2 i (by omega)).2, by show TB.length ≤ L.length; omega⟩
 have hxm : modM TA (itemT (core TA)) (TA.length + 1) 0 [] [] = some (x, []) := by unfold modV at hx; rw [if_neg (by omega)] at hx; exact hx
 have hym : modM TB (itemT (core TB)) (TB.length + 1) 0 [] [] = some (y, []) := by unfold modV at hy; rw [if_neg (by omega)] at hy; exact hy
 obtain ⟨x', f1, hxx, e1, hf1⟩ := mod_part SA hTA (show TA.length = A0.length + 1 from lA) kA (TA.length + 1) 0 [] x (by omega) hxm [] [] (L.length + 1) .nil (by omega)
 have hyx := modM_pre x _ _ _ _ _ hym
 rw [List.append_nil] at hyx
 have hend : (L.getD (A0.length + W0.length + B0.length) tok0).kind = 0 := by
  rw [(gB2 B0.length (by omega)).1, hB0, List.getD_eq_getElem?_getD, List.getElem?_append_right (Nat.le_refl _)]
  simp
 -- from where the second text begins
 have tail : ∀ (es : List Int) (f : Nat), B0.length + 2 ≤ f → ∃ z, LR PA (x ++ y) z ∧ modM L (itemT (core L)) f (A0.length + W0.length) x' es = some (z, es) := by
  intro es f hf
  obtain ⟨z, f2, hz, e2, hf2⟩ := mod_part SB hTB (show TB.length = B0.length + 1 from lB) kB (TB.length + 1) 0 x (x ++ y) (by omega) hyx x' es f hxx (by omega)
  refine ⟨z, hz, ?_⟩
  have e2' : modM L (itemT (core L)) f (A0.length + W0.length) x' es = modM L (itemT (core L)) f2 (A0.length + W0.length + B0.length) z es := e2
  rw [e2']
  obtain ⟨g, rfl⟩ : ∃ g, f2 = g + 1 := ⟨f2 - 1, by omega⟩
  show (if (L.getD (A0.length + W0.length + B0.length) tok0).kind = 0 then some (z, es) else _) = _
  rw [if_pos hend]
 have e1' : modM L (itemT (core L)) (L.length + 1) 0 [] [] = modM L (itemT (core L)) f1 A0.length x' [] := by
  have := e1
  rw [Nat.zero_add, Nat.zero_add] at this
  exact this
 have hV : modV L (itemT (core L)) = modM L (itemT (core L)) f1 A0.length x' [] := by
  rw [← e1']
  unfold modV
  rw [if_neg (by omega)]
 rw [hV]
 rcases hK with hK | hK
 ·have w0 : W0.length = 0 := by rw [lW, hK]; rfl
  obtain ⟨z, hz, e⟩ := tail [] f1 (by omega)
  rw [w0, Nat.add_zero] at e
  exact ⟨z, [], e, hz, fun _ => hK, fun _ => rfl⟩
 ·have hnx : Nxt (core L) (A0.length + K.length) := by
   rw [← lW]
   by_cases hb0 : B0.length = 0
   ·have h1 := gB2 0 (by omega)
    have hT0 : TB.getD 0 tok0 = ⟨0, ByteArray.empty, eB⟩ := by
     have : B0 = [] := List.eq_nil_of_length_eq_zero hb0
     rw [hB0, this]; rfl
    rw [hT0] at h1
    exact Nxt.of_end h1.1 h1.2
   ·have h1 := gB2 0 (by omega)
    rw [Nat.add_zero] at h1
    have hit : ∃ t j, itemT (core TB) 0 = .ok (t, j) := by
     have h2 := hym
     unfold modM at h2
     rw [if_neg (show ¬ (TB.getD 0 tok0).kind = 0 from kB 0 (by omega))] at h2
     cases hp : itemT (core TB) 0 with
     | ok z => exact ⟨z.1, z.2, rfl⟩
     | error j =>
      rw [hp] at h2
      obtain ⟨d, hd⟩ := modM_errs _ _ _ _ _ _ h2
      simp at hd
    obtain ⟨t, j, hit⟩ := hit
    have hbg : begins (TB.getD 0 tok0).text = true := item_begins (r := core TB) (i := 0) (t := t) (j := j) hit
    have hkd : (TB.getD 0 tok0).kind = 2 := hBw _ (by rw [getD_eq _ _ _ (by omega)]; exact List.getElem_mem _) hbg
    exact Nxt.of_begins (by show begins (L.getD _ tok0).text = true; rw [h1.2]; exact hbg) (by show (L.getD _ tok0).kind = 2; rw [h1.1]; exact hkd)
  have hW2 : K ≠ [] := by
   rintro rfl
   have := (hK (core L) A0.length (fun i h => absurd h (by simp)) hnx (by show A0.length + 0 < L.length; omega)).2
   obtain ⟨j, h1, h2⟩ := this
   have h3 := (fine_itemT hT.endAt hT.intAt A0.length (by show A0.length < L.length; omega)).2 j h1
   have h4 := resP_gt (L := L) h3.1 (hK (core L) A0.length (fun i h => absurd h (by simp)) hnx (by show A0.length + 0 < L.length; omega)).1
   have h5 : resP L A0.length (L.length + 1) j = A0.length + 0 := h2
   omega
  have hKl : 0 < K.length := List.length_pos_iff.2 hW2
  obtain ⟨hk0, j, hj, hr⟩ := hK (core L) A0.length (fun i h => by
   have h1 := gW i (by omega)
   have h2 := getD_map hW0 (i := i) (by omega)
   have e0 : K.getD i (0, ByteArray.empty) = K[i] := by rw [List.getD_eq_getElem?_getD, List.getElem?_eq_getElem h]; rfl
   rw [e0] at h2
   exact ⟨by show (L.getD (A0.length + i) tok0).kind = _; rw [h1]; exact h2.1, by show (L.getD (A0.length + i) tok0).text = _; rw [h1]; exact h2.2⟩) hnx (by show A0.length + K.length < L.length; omega)
  obtain ⟨g, rfl⟩ : ∃ g, f1 = g + 1 := ⟨f1 - 1, by omega⟩
  obtain ⟨z, hz, e⟩ := tail ([] ++ [(L.getD j tok0).at_]) g (by omega)
  refine ⟨z, [(L.getD j tok0).at_], ?_, hz, ⟨fun h => (List.cons_ne_nil _ _ h).elim, fun h => absurd h hW2⟩⟩
  show (if (L.getD A0.length tok0).kind = 0 then some (x', []) else match itemT (core L) A0.length with
   | .ok (t, j) => modM L (itemT (core L)) g j (x' ++ [t]) []
   | .error j => modM L (itemT (core L)) g (resP L A0.length (L.length + 1) j) x' ([] ++ [(L.getD j tok0).at_])) = _
  rw [if_neg (show ¬ (L.getD A0.length tok0).kind = 0 from hk0), hj]
  have hr' : resP L A0.length (L.length + 1) j = A0.length + W0.length := by rw [lW]; exact hr
  show modM L (itemT (core L)) g (resP L A0.length (L.length + 1) j) x' ([] ++ [(L.getD j tok0).at_]) = _
  rw [hr', e]
  rfl
end Go.Proofs.YtheigpiffdabnaaGreat
namespace Go.Proofs.YtheigpiffdabnaaGreat
open Go Go.RowKit
theorem toks_of {s : ByteArray} (h : s.size ≤ 20000) : tokList s = Lx.toks s ∧ Toks (Lx.toks s) := by
 have hz : tokList s = Lx.toks s := by unfold tokList; rw [if_pos (by omega)]
 refine ⟨hz, ?_⟩
 rcases tokList_toks s with h | h
 ·exfalso
  have h2 := Lx.Scan.ends (Lx.toks_scan s)
  rw [← hz, h] at h2
  obtain ⟨D, e, h3, _⟩ := h2
  exact absurd h3 (by simp)
 ·rwa [hz] at h
theorem mod_joinT {a w b S : ByteArray} {K : List (Int × ByteArray)} {x y : List Tree} (hS : S.data.toList = a.data.toList ++ 10 :: (w.data.toList ++ 10 :: b.data.toList)) (hs : S.size ≤ 20000)
  (hw : (Lx.toks w).map ktT = K ++ [(0, ByteArray.empty)]) (hK : K = [] ∨ Bad K) (ha : modOf a = some (x, [])) (hb : modOf b = some (y, [])) :
  ∃ z g, modOf S = some (z, g) ∧ LR PA (x ++ y) z ∧ (g = [] ↔ K = []) := by
 have hsz : a.size + 1 + (w.size + 1 + b.size) = S.size := by
  have := congrArg List.length hS
  simp at this
  omega
 obtain ⟨ea, ta⟩ := toks_of (s := a) (by omega)
 obtain ⟨eb, tb⟩ := toks_of (s := b) (by omega)
 obtain ⟨eS, tS⟩ := toks_of hs
 obtain ⟨TB', sb, mb⟩ := (Lx.toks_scan b).move (0 + a.data.toList.length + 1 + w.data.toList.length + 1)
 obtain ⟨TW', sw, mw⟩ := (Lx.toks_scan w).move (0 + a.data.toList.length + 1)
 obtain ⟨W0, ew, e1, k1, s1⟩ := sw.nl b.data.toList TB' sb
 obtain ⟨A0, eA, e2, k2, s2⟩ := (Lx.toks_scan a).nl (w.data.toList ++ 10 :: b.data.toList) (W0 ++ TB') s1
 have hdet : Lx.toks S = A0 ++ (W0 ++ TB') := by
  have := Lx.toks_scan S
  rw [hS] at this
  exact Lx.Scan.det this s2
 have hW0 : W0.map ktT = K := by
  have h1 : TW'.map ktT = K ++ [(0, ByteArray.empty)] := (show TW'.map ktT = (Lx.toks w).map ktT from mw).trans hw
  rw [e1, List.map_append] at h1
  exact (List.append_inj' h1 rfl).1
 unfold modOf at ha hb ⊢
 rw [ea] at ha
 rw [eb] at hb
 rw [eS, hdet]
 rw [hdet] at tS
 exact mod_join ta tb tS e2 k2 hW0 mb (scan_begW (Lx.toks_scan b)) hK ha hb
def bad1 : List (Int × ByteArray) := [((2 : Int), (⟨#[102, 110]⟩ : ByteArray)), ((1 : Int), (⟨#[102]⟩ : ByteArray)), ((4 : Int), (⟨#[40]⟩ : ByteArray))]
theorem bad1_bad : Bad bad1 := fun r s h hx hl => ⟨by have := (h 0 (by decide)).kind; rw [show s + 0 = s from rfl] at this; rw [this]; decide, wrong_1 (h 0 (by decide)) (h 1 (by decide)) (h 2 (by decide)) hx hl⟩
def bad2 : List (Int × ByteArray) := [((5 : Int), (⟨#[63]⟩ : ByteArray))]
theorem bad2_bad : Bad bad2 := fun r s h hx hl => ⟨by have := (h 0 (by decide)).kind; rw [show s + 0 = s from rfl] at this; rw [this]; decide, wrong_2 (h 0 (by decide)) hx hl⟩
def bad3 : List (Int × ByteArray) := [((2 : Int), (⟨#[99, 111, 110, 115, 116]⟩ : ByteArray)), ((1 : Int), (⟨#[99]⟩ : ByteArray)), ((2 : Int), (⟨#[105, 110, 116]⟩ : ByteArray)), ((4 : Int), (⟨#[61]⟩ : ByteArray)), ((3 : Int), (⟨#[49]⟩ : ByteArray)), ((4 : Int), (⟨#[59]⟩ : ByteArray))]
theorem bad3_bad : Bad bad3 := fun r s h hx hl => ⟨by have := (h 0 (by decide)).kind; rw [show s + 0 = s from rfl] at this; rw [this]; decide, wrong_3 (h 0 (by decide)) (h 1 (by decide)) (h 2 (by decide)) (h 3 (by decide)) (h 4 (by decide)) (h 5 (by decide)) hx hl⟩
def bad4 : List (Int × ByteArray) := [((2 : Int), (⟨#[116, 121, 112, 101]⟩ : ByteArray)), ((1 : Int), (⟨#[84]⟩ : ByteArray)), ((4 : Int), (⟨#[123]⟩ : ByteArray)), ((1 : Int), (⟨#[120]⟩ : ByteArray)), ((4 : Int), (⟨#[125]⟩ : ByteArray))]
theorem bad4_bad : Bad bad4 := fun r s h hx hl => ⟨by have := (h 0 (by decide)).kind; rw [show s + 0 = s from rfl] at this; rw [this]; decide, wrong_4 (h 0 (by decide)) (h 1 (by decide)) (h 2 (by decide)) (h 3 (by decide)) (h 4 (by decide)) hx hl⟩
def bad5 : List (Int × ByteArray) := [((2 : Int), (⟨#[108, 101, 116]⟩ : ByteArray)), ((1 : Int), (⟨#[120]⟩ : ByteArray)), ((4 : Int), (⟨#[61]⟩ : ByteArray)), ((3 : Int), (⟨#[49]⟩ : ByteArray)), ((4 : Int), (⟨#[59]⟩ : ByteArray))]
theorem bad5_bad : Bad bad5 := fun r s h hx hl => ⟨by have := (h 0 (by decide)).kind; rw [show s + 0 = s from rfl] at this; rw [this]; decide, wrong_5 (h 0 (by decide)) (h 1 (by decide)) (h 2 (by decide)) (h 3 (by decide)) (h 4 (by decide)) hx hl⟩
def bad6 : List (Int × ByteArray) := [((2 : Int), (⟨#[105, 109, 112, 108]⟩ : ByteArray)), ((1 : Int), (⟨#[65]⟩ : ByteArray)), ((1 : Int), (⟨#[66]⟩ : ByteArray)), ((4 : Int), (⟨#[123]⟩ : ByteArray))]
theorem bad6_bad : Bad bad6 := fun r s h hx hl => ⟨by have := (h 0 (by decide)).kind; rw [show s + 0 = s from rfl] at this; rw [this]; decide, wrong_6 (h 0 (by decide)) (h 1 (by decide)) (h 2 (by decide)) (h 3 (by decide)) hx hl⟩
theorem bad1_toks : (Lx.toks ⟨#[102, 110, 32, 102, 40]⟩).map ktT = bad1 ++ [(0, ByteArray.empty)] := by kernel_rfl
theorem bad2_toks : (Lx.toks ⟨#[63]⟩).map ktT = bad2 ++ [(0, ByteArray.empty)] := by kernel_rfl
theorem bad3_toks : (Lx.toks ⟨#[99, 111, 110, 115, 116, 32, 99, 32, 105, 110, 116, 32, 61, 32, 49, 59]⟩).map ktT = bad3 ++ [(0, ByteArray.empty)] := by kernel_rfl
theorem bad4_toks : (Lx.toks ⟨#[116, 121, 112, 101, 32, 84, 32, 123, 32, 120, 32, 125]⟩).map ktT = bad4 ++ [(0, ByteArray.empty)] := by kernel_rfl
theorem bad5_toks : (Lx.toks ⟨#[108, 101, 116, 32, 120, 32, 61, 32, 49, 59]⟩).map ktT = bad5 ++ [(0, ByteArray.empty)] := by kernel_rfl
theorem bad6_toks : (Lx.toks ⟨#[105, 109, 112, 108, 32, 65, 32, 66, 32, 123]⟩).map ktT = bad6 ++ [(0, ByteArray.empty)] := by kernel_rfl
end Go.Proofs.YtheigpiffdabnaaGreat
