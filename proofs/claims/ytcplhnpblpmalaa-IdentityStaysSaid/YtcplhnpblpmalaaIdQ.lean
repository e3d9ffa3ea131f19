/-
  PLAIN: identities after an update are valid; the same update again changes nothing; what stays keeps its number; what is renamed keeps it too.
-/
import Derived.Test.YtcplhnpblpmalaaIdP
namespace Go.Proofs.Ytcplhnpblpmalaa.Idn
set_option linter.unusedVariables false

theorem number_keep : ∀ (n : Int) (Z : List En) (p : En), p ∈ Z → p.1 ≠ 0 → p ∈ number n Z
  | _, [], _, h, _ => by cases h
  | n, q :: Z, p, h, h0 => by
    unfold number
    rcases List.mem_cons.1 h with rfl | h
    · rw [if_neg h0]; simp
    · split
      · exact List.mem_cons_of_mem _ (number_keep _ _ _ h h0)
      · exact List.mem_cons_of_mem _ (number_keep _ _ _ h h0)
theorem number_all : ∀ (n : Int) (Z : List En), (∀ p ∈ Z, p.1 ≠ 0) → number n Z = Z
  | _, [], _ => rfl
  | n, q :: Z, h => by
    unfold number
    rw [if_neg (h q (by simp)), number_all n Z (fun p hp => h p (by simp [hp]))]
theorem given_items (next : Int) (L : List En) (l : List It) : (given next L l).map (·.2) = l := by
  unfold given
  rw [number_items]
  simp [pairV, kept0, Function.comp_def]
theorem given_len (next : Int) (L : List En) (l : List It) : (given next L l).length = l.length := by simpa using congrArg List.length (given_items next L l)
theorem given_apart {next : Int} {L : List En} {l : List It} (hc : Chk next L) (hd : Dif l) :
    (given next L l).Pairwise (fun a b => a.1 ≠ b.1) ∧ ∀ q ∈ given next L l, 1 ≤ q.1 ∧ q.1 < nextV next L l := by
  have h := number_apart next _ (pair_apart hc hd) (pair_pos hc) hc.low
  refine ⟨h.1, fun q hq => ?_⟩
  unfold nextV
  have := hc.low
  rcases h.2 q hq with ⟨m, e⟩ | e
  · rcases pair_pos hc q m with z | z
    · exact absurd z e
    · omega
  · omega
theorem upd_chk {next : Int} {L : List En} {l : List It} (hc : Chk next L) (hd : Dif l) (hn : nextV next L l ≤ 1099511627776) : Chk (nextV next L l) (byId (given next L l)) := by
  have h := given_apart hc hd
  refine ⟨?_, hn, byId_asc h.1, fun y hy => h.2 y ((byId_perm _).mem_iff.1 hy), ?_⟩
  · unfold nextV; have := hc.low; omega
  · refine (byId_perm _).symm.pairwise ?_ (fun {a b} h => h.symm)
    have := given_items next L l
    have hd' : ((given next L l).map (·.2)).Pairwise fun a b => dfn a ≠ dfn b := by rw [this]; exact hd
    exact (List.pairwise_map (f := fun p : En => p.2) (R := fun a b : It => dfn a ≠ dfn b)).1 hd'
theorem byId_len (Z : List En) : (byId Z).length = Z.length := (byId_perm Z).length_eq

/-- an item that has a number already keeps it -/
theorem given_keeps {next : Int} {L : List En} {l : List It} {x : It} (hx : x ∈ l) (h0 : idOf L (dfn x) ≠ 0) : (idOf L (dfn x), x) ∈ given next L l := by
  unfold given
  refine number_keep _ _ _ ?_ h0
  unfold pairV
  refine List.mem_map.2 ⟨(idOf L (dfn x), x), List.mem_map.2 ⟨x, hx, rfl⟩, ?_⟩
  unfold pairId
  rw [if_pos h0]
/-- an item that has its number by its shape -/
theorem given_pairs {next : Int} {L : List En} {l : List It} {x : It} (hx : x ∈ l) (h0 : idOf L (dfn x) = 0) (h1 : pairId (leftV L l) (kept0 L l) (0, x) ≠ 0) : (pairId (leftV L l) (kept0 L l) (0, x), x) ∈ given next L l := by
  unfold given
  refine number_keep _ _ _ ?_ h1
  unfold pairV
  exact List.mem_map.2 ⟨(0, x), List.mem_map.2 ⟨x, hx, by rw [h0]⟩, rfl⟩

/-- all of a list that is given has its numbers already: nothing changes -/
theorem given_same {next next' : Int} {G : List En} (hc : Chk next (byId G)) : given next' (byId G) (G.map (·.2)) = G ∧ nextV next' (byId G) (G.map (·.2)) = next' := by
  have hk : kept0 (byId G) (G.map (·.2)) = G := by
    unfold kept0
    rw [List.map_map]
    conv => rhs; rw [← List.map_id G]
    refine List.map_congr_left fun p hp => ?_
    have := idOf_mem hc ((byId_perm G).mem_iff.2 hp)
    simp only [Function.comp, id]
    rw [this]
  have hz : ∀ p ∈ G, p.1 ≠ 0 := fun p hp => by have := (hc.pos p ((byId_perm G).mem_iff.2 hp)).1; omega
  have hp : pairV (leftV (byId G) (G.map (·.2))) G = G := by
    unfold pairV
    conv => rhs; rw [← List.map_id G]
    refine List.map_congr_left fun p hp => ?_
    unfold pairId
    rw [if_pos (hz p hp)]
    rfl
  constructor
  · unfold given; rw [hk, hp, number_all _ _ hz]
  · unfold nextV; rw [hk, hp]
    have : G.filter (fun p => decide (p.1 = 0)) = [] := List.filter_eq_nil_iff.2 fun p hp => by simpa using hz p hp
    unfold zeros; rw [this]; simp

/-- the definitions that moved -/
def movedB (old : List En) (y : En) : Bool := match old.find? (fun z => decide (z.1 = y.1)) with | some z => !decide (dfn z.2 = dfn y.2) | none => false
def movesV (old now : List En) : List En := now.filter (movedB old)
theorem moved_mem {next : Int} {old : List En} (hc : Chk next old) {y z : En} (hz : z ∈ old) (h : z.1 = y.1) : movedB old y = !decide (dfn z.2 = dfn y.2) := by
  unfold movedB
  cases e : old.find? (fun z => decide (z.1 = y.1)) with
  | none => have := List.find?_eq_none.1 e z hz; simp [h] at this
  | some u =>
    have e1 := List.mem_of_find?_eq_some e
    have e2 : u.1 = y.1 := by simpa using List.find?_some e
    rw [id_inj hc e1 hz (by omega)]

/-- one item renamed, whose shape no other one has -/
theorem renamed {next : Int} {l1 l2 : List It} {x y : It} {L : List En} {was : Int} (hc : Chk next L)
    (hL : ∀ p : En, p ∈ L → p.2 = x ∨ p.2 ∈ l1 ∨ p.2 ∈ l2) (hl1 : ∀ u ∈ l1, ∃ i, (i, u) ∈ L) (hl2 : ∀ u ∈ l2, ∃ i, (i, u) ∈ L) (hx : (was, x) ∈ L)
    (hd : Dif (l1 ++ x :: l2)) (hy : ∀ p ∈ L, dfn p.2 ≠ dfn y) (hxs : shp x = shp y) (hs1 : ∀ u ∈ l1, shp u ≠ shp y) (hs2 : ∀ u ∈ l2, shp u ≠ shp y) :
    Dif (l1 ++ l2 ++ [y]) ∧ nextV next L (l1 ++ l2 ++ [y]) = next ∧ (was, y) ∈ given next L (l1 ++ l2 ++ [y]) ∧
      ∀ p ∈ given next L (l1 ++ l2 ++ [y]), p = (was, y) ∨ p ∈ L := by
  have hdl : Dif (l1 ++ l2 ++ [y]) := by
    unfold Dif at hd ⊢
    rw [List.pairwise_append] at hd
    obtain ⟨d1, d2, d3⟩ := hd
    rw [List.pairwise_cons] at d2
    rw [List.pairwise_append, List.pairwise_append]
    refine ⟨⟨d1, d2.2, fun a ha b hb => d3 a ha b (by simp [hb])⟩, by simp, fun a ha b hb => ?_⟩
    rw [List.mem_singleton] at hb
    subst hb
    rcases List.mem_append.1 ha with h | h
    · obtain ⟨i, hi⟩ := hl1 a h; exact hy _ hi
    · obtain ⟨i, hi⟩ := hl2 a h; exact hy _ hi
  have hxn : ∀ u, u ∈ l1 ∨ u ∈ l2 → dfn u ≠ dfn x := by
    intro u hu
    unfold Dif at hd
    rw [List.pairwise_append] at hd
    obtain ⟨d1, d2, d3⟩ := hd
    rw [List.pairwise_cons] at d2
    rcases hu with h | h
    · exact d3 u h x (by simp)
    · exact (d2.1 u h).symm
  have hold : ∀ u, u ∈ l1 ∨ u ∈ l2 → idOf L (dfn u) ≠ 0 ∧ (idOf L (dfn u), u) ∈ L := by
    intro u hu
    obtain ⟨i, hi⟩ : ∃ i, (i, u) ∈ L := by rcases hu with h | h; exact hl1 u h; exact hl2 u h
    have := idOf_mem hc hi
    simp only at this
    rw [this]
    exact ⟨by have := (hc.pos _ hi).1; simp only at this; omega, hi⟩
  have hy0 : idOf L (dfn y) = 0 := by
    by_cases h : idOf L (dfn y) = 0
    · exact h
    · obtain ⟨p, hp, e, _⟩ := idOf_ne hc h
      exact absurd e (hy p hp)
  have hK : kept0 L (l1 ++ l2 ++ [y]) = (l1 ++ l2).map (fun u => (idOf L (dfn u), u)) ++ [(0, y)] := by
    unfold kept0; rw [List.map_append]; simp [hy0]
  have hR : ∀ p, p ∈ leftV L (l1 ++ l2 ++ [y]) ↔ p = (was, x) := by
    intro p
    rw [left_mem]
    constructor
    · rintro ⟨hp, h⟩
      rcases hL p hp with e | e | e
      · exact id_inj_def hc hp hx (by rw [e])
      · exact absurd rfl (h p.2 (by simp [e]))
      · exact absurd rfl (h p.2 (by simp [e]))
    · rintro rfl
      refine ⟨hx, fun u hu => ?_⟩
      simp only [List.mem_append, List.mem_singleton] at hu
      rcases hu with (h | h) | h
      · exact hxn u (.inl h)
      · exact hxn u (.inr h)
      · subst h; exact (hy _ hx).symm
  have hRf : (leftV L (l1 ++ l2 ++ [y])).filter (fun p => decide (shp p.2 = shp y)) = [(was, x)] := by
    have hpw : (leftV L (l1 ++ l2 ++ [y])).Pairwise (fun a b => a.1 < b.1) := hc.asc.filter _
    have hall : ∀ (M : List En), M.Pairwise (fun a b => a.1 < b.1) → (∀ p, p ∈ M ↔ p = (was, x)) → M = [(was, x)] := by
      intro M hM hm
      cases M with
      | nil => exact absurd ((hm (was, x)).2 rfl) (by simp)
      | cons a M =>
        obtain rfl := (hm a).1 (by simp)
        cases M with
        | nil => rfl
        | cons b M =>
          obtain rfl := (hm b).1 (by simp)
          rw [List.pairwise_cons] at hM
          have := hM.1 (was, x) (by simp)
          simp only at this
          omega
    refine hall _ (hpw.filter _) (fun p => ?_)
    rw [List.mem_filter, hR]
    constructor
    · exact fun h => h.1
    · rintro rfl; exact ⟨rfl, by simp [hxs]⟩
  have hZf : ((kept0 L (l1 ++ l2 ++ [y])).filter fun q => decide (q.1 = 0 ∧ shp q.2 = shp y)) = [(0, y)] := by
    rw [hK, List.filter_append]
    have : ((l1 ++ l2).map (fun u => (idOf L (dfn u), u))).filter (fun q => decide (q.1 = 0 ∧ shp q.2 = shp y)) = [] := by
      refine List.filter_eq_nil_iff.2 fun q hq => ?_
      obtain ⟨u, hu, rfl⟩ := List.mem_map.1 hq
      have := (hold u (List.mem_append.1 hu)).1
      simp [this]
    rw [this]
    simp
  have hpy : pairId (leftV L (l1 ++ l2 ++ [y])) (kept0 L (l1 ++ l2 ++ [y])) (0, y) = was := by
    unfold pairId
    rw [if_neg (by simp)]
    simp only [hZf, hRf]
    rfl
  have hw : was ≠ 0 := by have := (hc.pos _ hx).1; simp only at this; omega
  have hP : pairV (leftV L (l1 ++ l2 ++ [y])) (kept0 L (l1 ++ l2 ++ [y])) = (l1 ++ l2).map (fun u => (idOf L (dfn u), u)) ++ [(was, y)] := by
    unfold pairV
    conv => lhs; arg 2; rw [hK]
    rw [List.map_append, List.map_map]
    congr 1
    · refine List.map_congr_left fun u hu => ?_
      have := (hold u (List.mem_append.1 hu)).1
      simp only [Function.comp]
      unfold pairId
      rw [if_pos this]
    · simp only [List.map_cons, List.map_nil]
      rw [hpy]
  have hnz : ∀ p ∈ (l1 ++ l2).map (fun u => (idOf L (dfn u), u)) ++ [(was, y)], p.1 ≠ 0 := by
    intro p hp
    rcases List.mem_append.1 hp with h | h
    · obtain ⟨u, hu, rfl⟩ := List.mem_map.1 h
      exact (hold u (List.mem_append.1 hu)).1
    · rw [List.mem_singleton] at h; subst h; exact hw
  refine ⟨hdl, ?_, ?_, ?_⟩
  · unfold nextV
    rw [hP]
    have : ((l1 ++ l2).map (fun u => (idOf L (dfn u), u)) ++ [(was, y)]).filter (fun p => decide (p.1 = 0)) = [] := List.filter_eq_nil_iff.2 fun p hp => by simpa using hnz p hp
    unfold zeros; rw [this]; simp
  · unfold given; rw [hP, number_all _ _ hnz]; simp
  · unfold given
    rw [hP, number_all _ _ hnz]
    intro p hp
    rcases List.mem_append.1 hp with h | h
    · obtain ⟨u, hu, rfl⟩ := List.mem_map.1 h
      exact .inr (hold u (List.mem_append.1 hu)).2
    · rw [List.mem_singleton] at h; exact .inl h
end Go.Proofs.Ytcplhnpblpmalaa.Idn
