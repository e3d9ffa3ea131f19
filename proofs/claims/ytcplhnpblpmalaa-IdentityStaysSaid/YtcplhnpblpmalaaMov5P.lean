/-
  PLAIN: what becomes of a renamed and moved item, and of the identities before it.
-/
import Derived.Test.YtcplhnpblpmalaaAwake5
namespace Go.Proofs.Ytcplhnpblpmalaa.Idn
open Go Go.RowKit Go.Maps
set_option linter.unusedVariables false
set_option maxRecDepth 1000000
set_option linter.unusedSimpArgs false

def alone : ByteArray := ⟨#[97, 108, 111, 110, 101]⟩
def nC : ByteArray := ⟨#[99]⟩
theorem nextV_le (next : Int) (L : List En) (l : List It) : nextV next L l ≤ next + l.length := by
  unfold nextV
  have : zeros (pairV (leftV L l) (kept0 L l)) ≤ l.length := by
    unfold zeros
    have h := List.length_filter_le (fun p : En => decide (p.1 = 0)) (pairV (leftV L l) (kept0 L l))
    have e : (pairV (leftV L l) (kept0 L l)).length = l.length := by simp [pairV, kept0]
    omega
  omega
theorem at_found {next : Int} {L : List En} (hc : Chk next L) {p : En} (hp : p ∈ L) : at? L (dfn p.2) = some p := by
  cases e : at? L (dfn p.2) with
  | none => exact absurd rfl (at_none e p hp)
  | some u =>
    obtain ⟨h1, h2⟩ := at_some e
    have k := hc.dif
    clear e hc
    induction L with
    | nil => cases hp
    | cons a L ih =>
      rw [List.pairwise_cons] at k
      rcases List.mem_cons.1 hp with rfl | hp <;> rcases List.mem_cons.1 h1 with rfl | h1
      · rfl
      · exact absurd h2.symm (k.1 u h1)
      · exact absurd h2 (k.1 p (by assumption))
      · exact ih (by assumption) h1 k.2
theorem found_mem {next : Int} {L : List En} (hc : Chk next L) {p : En} (hp : p ∈ L) : foundV L (dfn p.2) = .tuple #[.int .i64 p.1, .bool true] := by
  unfold foundV
  rw [at_found hc hp]
theorem filter_one {α : Type} [DecidableEq α] (f : α → Bool) (a : α) : ∀ (L : List α), L.Nodup → a ∈ L → (∀ p ∈ L, f p = decide (p = a)) → L.filter f = [a]
  | [], _, h, _ => by cases h
  | b :: L, hn, h, hf => by
    rw [List.nodup_cons] at hn
    rw [List.filter_cons, hf b (by simp)]
    by_cases e : b = a
    · subst e
      simp only [decide_true, if_true]
      rw [List.filter_eq_nil_iff.2]
      intro p hp
      rw [hf p (by simp [hp])]
      simp only [decide_eq_true_eq]
      intro q; subst q; exact hn.1 hp
    · simp only [e, decide_false]
      rw [if_neg (by simp)]
      refine filter_one f a L hn.2 ?_ (fun p hp => hf p (by simp [hp]))
      rcases List.mem_cons.1 h with q | q
      · exact absurd q.symm e
      · exact q

/-- all that becomes of them -/
structure Mvd (l1 l2 : List It) (x y : It) (was n1 : Int) (E1 E2 : List En) : Prop where
  chk1 : Chk n1 E1
  chk2 : Chk n1 E2
  low : n1 ≤ 20
  found1 : foundV E1 (dfn x) = .tuple #[.int .i64 was, .bool true]
  found2 : foundV E2 (dfn y) = .tuple #[.int .i64 was, .bool true]
  next2 : nextV n1 E1 (l1 ++ l2 ++ [y]) = n1
  moves : movesV E1 E2 = [(was, y)]
  wasb : 1 ≤ was ∧ was ≤ 20
  len1 : E1.length ≤ 12
  len2 : E2.length ≤ 12
  mem1 : ∀ p ∈ E1, p.2 ∈ l1 ++ x :: l2
  mem2 : ∀ p ∈ E2, p.2 ∈ l1 ++ l2 ++ [y]
theorem moves_plain {l1 l2 : List It} {x y : It} (hd : Dif (l1 ++ x :: l2)) (hlen : (l1 ++ x :: l2).length ≤ 8) (hy : ∀ u ∈ l1 ++ x :: l2, dfn u ≠ dfn y) (hxs : shp x = shp y)
    (hs1 : ∀ u ∈ l1, shp u ≠ shp y) (hs2 : ∀ u ∈ l2, shp u ≠ shp y) :
    ∃ was, Mvd l1 l2 x y was (nextV 1 [] (l1 ++ x :: l2)) (byId (given 1 [] (l1 ++ x :: l2))) (byId (given (nextV 1 [] (l1 ++ x :: l2)) (byId (given 1 [] (l1 ++ x :: l2))) (l1 ++ l2 ++ [y]))) := by
  have hn := nextV_le 1 [] (l1 ++ x :: l2)
  have hn1 : nextV 1 [] (l1 ++ x :: l2) ≤ 20 := by omega
  have hc1 := upd_chk c5z hd (by omega)
  have hit := given_items 1 [] (l1 ++ x :: l2)
  have hgl := given_len 1 [] (l1 ++ x :: l2)
  generalize hG : given 1 [] (l1 ++ x :: l2) = G at *
  generalize nextV 1 [] (l1 ++ x :: l2) = n1 at *
  have hm : ∀ u, u ∈ l1 ++ x :: l2 → ∃ i, (i, u) ∈ byId G := fun u hu => by
    rw [← hit] at hu
    obtain ⟨p, hp, rfl⟩ := List.mem_map.1 hu
    exact ⟨p.1, (byId_perm G).mem_iff.2 hp⟩
  have hL : ∀ p ∈ byId G, p.2 ∈ l1 ++ x :: l2 := fun p hp => by
    rw [← hit]; exact List.mem_map.2 ⟨p, (byId_perm G).mem_iff.1 hp, rfl⟩
  obtain ⟨was, hw⟩ := hm x (by simp)
  have hR := renamed (y := y) (l1 := l1) (l2 := l2) hc1 (fun p hp => by have := hL p hp; simp at this; rcases this with h | h | h <;> simp [h]) (fun u hu => hm u (by simp [hu])) (fun u hu => hm u (by simp [hu])) hw hd (fun p hp => hy _ (hL p hp)) hxs hs1 hs2
  obtain ⟨r1, r2, r3, r4⟩ := hR
  have hc2 := upd_chk hc1 r1 (by rw [r2]; omega)
  have hit2 := given_items n1 (byId G) (l1 ++ l2 ++ [y])
  have hgl2 := given_len n1 (byId G) (l1 ++ l2 ++ [y])
  rw [r2] at hc2
  generalize hG2 : given n1 (byId G) (l1 ++ l2 ++ [y]) = G2 at *
  have hw2 : (was, y) ∈ byId G2 := (byId_perm G2).mem_iff.2 r3
  have hb := hc1.pos _ hw
  simp only at hb
  simp only [List.length_append, List.length_cons] at hlen hgl hgl2
  refine ⟨was, hc1, hc2, hn1, found_mem hc1 hw, found_mem hc2 hw2, r2, ?_, ⟨hb.1, by omega⟩, by rw [byId_len]; omega, by rw [byId_len]; simp at hgl2; omega, hL, fun p hp => ?_⟩
  · unfold movesV
    refine filter_one _ (was, y) _ (hc2.asc.imp fun {a b} h e => by rw [e] at h; omega) hw2 (fun p hp => ?_)
    rcases r4 p ((byId_perm G2).mem_iff.1 hp) with rfl | h
    · rw [moved_mem (y := (was, y)) hc1 hw rfl]
      have := hy x (by simp)
      simp [this]
    · rw [moved_mem hc1 h rfl]
      have hne : p ≠ (was, y) := fun e => by subst e; exact hy _ (hL _ h) rfl
      simp [hne]
  · rw [← hit2]; exact List.mem_map.2 ⟨p, (byId_perm G2).mem_iff.1 hp, rfl⟩

/-- the items of the statement, with one renamed and moved -/
theorem made_moves {l1 l2 : List It} {x0 : It} {nm : ByteArray} (h : Made5 (l1 ++ x0 :: l2)) (hnm : nm.size ≤ 2) :
    ascI (l1 ++ (x0.1, x0.2.1, alone) :: l2) = true ∧ FitsI (l1 ++ (x0.1, x0.2.1, alone) :: l2) ∧ ascI (l1 ++ l2 ++ [(nC, nm, alone)]) = true ∧ FitsI (l1 ++ l2 ++ [(nC, nm, alone)]) ∧
      ∃ was, Mvd l1 l2 (x0.1, x0.2.1, alone) (nC, nm, alone) was (nextV 1 [] (l1 ++ (x0.1, x0.2.1, alone) :: l2)) (byId (given 1 [] (l1 ++ (x0.1, x0.2.1, alone) :: l2))) (byId (given (nextV 1 [] (l1 ++ (x0.1, x0.2.1, alone) :: l2)) (byId (given 1 [] (l1 ++ (x0.1, x0.2.1, alone) :: l2))) (l1 ++ l2 ++ [(nC, nm, alone)]))) := by
  have hmap : ((l1 ++ (x0.1, x0.2.1, alone) :: l2).map dfn) = (l1 ++ x0 :: l2).map dfn := by
    simp [dfn]
  have hpw : (l1 ++ (x0.1, x0.2.1, alone) :: l2).Pairwise fun a b => befB a b = true := by
    have := List.Pairwise.sublist h.sub K8_asc
    rw [← hmap, List.pairwise_map] at this
    exact this
  have hsub2 : (l1 ++ l2).Sublist (l1 ++ (x0.1, x0.2.1, alone) :: l2) := List.Sublist.append (List.Sublist.refl _) (List.sublist_cons_self _ _)
  have hkey : ∀ u ∈ l1 ++ (x0.1, x0.2.1, alone) :: l2, ∃ j, j < 8 ∧ dfn u = keyN j := fun u hu => by
    have := List.mem_map_of_mem (f := dfn) hu
    rw [hmap] at this
    have := h.sub.subset this
    unfold K8 at this
    obtain ⟨j, hj, e⟩ := List.mem_map.1 this
    exact ⟨j, List.mem_range.1 hj, e.symm⟩
  have hbc : ∀ j, j < 8 → Op.bytesLess (modN (j / 4)).data.toList nC.data.toList = true := by decide
  have hnc : ∀ j, j < 8 → modN (j / 4) ≠ nC := by decide
  have hms : ∀ j, j < 8 → (modN (j / 4)).size ≤ 1 ∧ (namN (j % 4)).size ≤ 1 := by decide
  have hyn : ∀ u ∈ l1 ++ (x0.1, x0.2.1, alone) :: l2, dfn u ≠ dfn (nC, nm, alone) := fun u hu e => by
    obtain ⟨j, hj, q⟩ := hkey u hu
    rw [q] at e
    exact hnc j hj (congrArg Prod.fst e)
  have hbef : ∀ u ∈ l1 ++ l2, befB u (nC, nm, alone) = true := fun u hu => by
    obtain ⟨j, hj, q⟩ := hkey u (hsub2.subset hu)
    have q1 : u.1 = modN (j / 4) := congrArg Prod.fst q
    unfold befB ltS
    simp only [ByteArray.toList_eq]
    rw [q1, hbc j hj]
    rfl
  have hpw2 : (l1 ++ l2 ++ [(nC, nm, alone)]).Pairwise fun a b => befB a b = true := by
    rw [List.pairwise_append]
    exact ⟨hpw.sublist hsub2, by simp, fun a ha b hb => by rw [List.mem_singleton] at hb; subst hb; exact hbef a ha⟩
  have hshort : ∀ u, u ∈ l1 ∨ u ∈ l2 → (shp u).size ≤ 4 := fun u hu => h.short u (by rcases hu with q | q <;> simp [q])
  have hfit : FitsI (l1 ++ (x0.1, x0.2.1, alone) :: l2) := fun u hu => by
    obtain ⟨j, hj, q⟩ := hkey u hu
    have q1 : u.1 = modN (j / 4) := congrArg Prod.fst q
    have q2 : u.2.1 = namN (j % 4) := congrArg Prod.snd q
    have q3 : (u.2.2).size ≤ 5 := by
      rcases List.mem_append.1 hu with m | m
      · have : (u.2.2).size ≤ 4 := hshort u (.inl m); omega
      · rcases List.mem_cons.1 m with rfl | m
        · exact (show alone.size ≤ 5 by decide)
        · have : (u.2.2).size ≤ 4 := hshort u (.inr m); omega
    have := hms j hj
    unfold FitI maxLen
    rw [q1, q2]
    exact ⟨by omega, by omega, by omega⟩
  have hfit2 : FitsI (l1 ++ l2 ++ [(nC, nm, alone)]) := fun u hu => by
    rcases List.mem_append.1 hu with m | m
    · exact hfit u (hsub2.subset m)
    · rw [List.mem_singleton] at m; subst m
      have e1 : nC.size = 1 := by decide
      have e2 : alone.size = 5 := by decide
      unfold FitI maxLen
      exact ⟨by simp only [e1]; omega, by simp only; omega, by simp only [e2]; omega⟩
  have hne : ∀ u, u ∈ l1 ∨ u ∈ l2 → shp u ≠ shp (nC, nm, alone) := fun u hu e => by
    have := hshort u hu
    rw [e] at this
    exact absurd (show alone.size ≤ 4 from this) (by decide)
  have hlen := h.len
  have hl' : (l1 ++ (x0.1, x0.2.1, alone) :: l2).length ≤ 8 := by simpa using hlen
  exact ⟨pw_asc hpw, hfit, pw_asc hpw2, hfit2, moves_plain (asc_dif (pw_asc hpw)) hl' hyn rfl (fun u hu => hne u (.inl hu)) (fun u hu => hne u (.inr hu))⟩
end Go.Proofs.Ytcplhnpblpmalaa.Idn
