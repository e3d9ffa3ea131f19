/-
  CONTRACTS: modules.ascending: the strings of a list, sorted, each once.
-/
import Derived.Test.YtheigpiffdabnaaMdM
namespace Go.Proofs.Ytheigpiffdabnaa.Mds
open Go Go.RowKit Go.Maps Go.Shelf
set_option linter.unusedVariables false
set_option linter.unusedSimpArgs false
set_option maxRecDepth 1000000

theorem valuesS_any (p : Option Addr) (n cap : Nat) (w : World) : Calls Try.prog 73 #[.slice p n cap] w fun e w' => e = .returned (.func (.func 90) #[] #[.pointer (some ⟨w.heap.size, 0, none⟩)]) ∧ w' = w.alloc (.cells #[.slice p n cap] 54) := by
  go_enter Try.func73, Try.ntmps73
  go_wp2_with fail
  go_ret
  exact ⟨rfl, rfl⟩
theorem collectS_any (Bs : Nat) (p : Option Addr) (n cap : Nat) (L : List ByteArray) (hfew : L.length ≤ 1000000) (w : World) (hBl : Bs < w.heap.size) (hBs : w.cell? ⟨Bs, 0, none⟩ = some (.slice p n cap)) (hs : SlIs encS w (.slice p n cap) L) :
    Calls Try.prog 88 #[.func (.func 90) #[] #[.pointer (some ⟨Bs, 0, none⟩)]] w fun e w' => ∃ v, e = .returned v ∧ OwnL encS 9 w' w.heap.size v L ∧ Below w.heap.size w w' := by
  have h := callsIn_wide.1 (appendS_in 3 (by omega) 90 #[.pointer (some ⟨Bs, 0, none⟩)] (enters_of Try.func90 (by kernel_rfl) rfl) _ _ L.length hfew w (valuesS_seq 2 (by omega) Bs p n cap L w hBl hBs hs hfew))
  clear hBs hs
  go_enter Try.func88, Try.ntmps88
  go_wp2_with (first
    | (go_at_call 99; refine h.mono ?_; rintro e w' ⟨v, xs, rfl, rfl, ho, hb⟩; have HO := Lib.hid ho; have HB := Lib.hid hb; clear h ho hb)
    | fail)
  go_ret
  exact ⟨v, rfl, HO.out, HB.out⟩
def toL (s : ByteArray) : List UInt8 := s.data.toList
def ofL (s : List UInt8) : ByteArray := ⟨s.toArray⟩
theorem ofL_toL (s : ByteArray) : ofL (toL s) = s := by unfold ofL toL; rfl
theorem toL_ofL (s : List UInt8) : toL (ofL s) = s := by unfold ofL toL; rfl
theorem encStr_of (s : List UInt8) : encStr s = .string (ofL s) := rfl
theorem compact_mem {α : Type} [Inhabited α] [DecidableEq α] (d : Array α) : ∀ (m : Nat) (j : Nat), j < m → d[j]! ∈ Lib.compactUpTo d m
  | 0, j, h => by omega
  | m + 1, j, h => by
    rw [Lib.compactUpTo_succ, List.mem_append]
    by_cases e : j < m
    · exact .inl (compact_mem d m j e)
    · obtain rfl : j = m := by omega
      by_cases k : Lib.keeps d j = true
      · right; rw [if_pos k]; simp
      · left
        unfold Lib.keeps at k
        simp only [decide_eq_true_eq, not_or] at k
        obtain ⟨k1, k2⟩ := k
        have k3 : d[j]! = d[j - 1]! := by
          by_cases q : d[j]! = d[j - 1]!
          · exact q
          · exact absurd q k2
        rw [k3]
        exact compact_mem d j (j - 1) (by omega)
theorem mem_compact {α : Type} [Inhabited α] [DecidableEq α] (zs : List α) (x : α) : x ∈ Lib.compact zs ↔ x ∈ zs := by
  constructor
  · intro h
    unfold Lib.compact Lib.compactUpTo at h
    obtain ⟨j, hj, rfl⟩ := List.mem_map.1 h
    have hl := List.mem_range.1 (List.mem_filter.1 hj).1
    rw [getElem!_pos zs.toArray j (by simpa using hl)]
    simp
  · intro h
    obtain ⟨j, hj, rfl⟩ := List.mem_iff_getElem.1 h
    have := compact_mem zs.toArray zs.length j hj
    rw [getElem!_pos zs.toArray j (by simpa using hj)] at this
    exact this
theorem compact_len {α : Type} [Inhabited α] [DecidableEq α] (zs : List α) : (Lib.compact zs).length ≤ zs.length := by
  unfold Lib.compact Lib.compactUpTo
  rw [List.length_map]
  refine Nat.le_trans (List.length_filter_le _ _) (by simp)
open Go.Sort in
theorem holds_ownS {w : World} {base g n c : Nat} {L : List ByteArray} (h : OwnL encS 9 w base (.slice (some ⟨g, 0, none⟩) n c) L) : Go.Sort.Holds encStr w g 0 (L.map toL).toArray := by
  intro j hj
  have hn : n = L.length := (h.sl.lies).1
  subst hn
  have hj' : j < L.length := by simpa using hj
  obtain ⟨-, -, -, h3⟩ := h.sl.lies
  obtain ⟨b', o', e, hc⟩ := h3 (by omega)
  injection e with e; injection e with e1 e2 _
  subst e1; subst e2
  refine ⟨?_, World.ownsRow.frozenAt h _⟩
  have := sAt hc j hj'
  rw [this]
  rw [getElem!_pos (L.map toL).toArray j hj]
  simp only [List.getElem_toArray, List.getElem_map]
  rw [encStr_of, ofL_toL]
  simp [List.getD, List.getElem?_eq_getElem hj']
open Go.Sort in
theorem sl_holds {w : World} {g cap : Nat} {ss : List (List UInt8)} (h : Go.Sort.Holds encStr w g 0 ss.toArray) (h1 : ss.length ≤ cap) (h2 : cap ≤ maxLen) : SlIs encS w (.slice (some ⟨g, 0, none⟩) ss.length cap) (ss.map ofL) := by
  refine ⟨_, cap, by rw [List.length_map], by rw [List.length_map]; exact h1, h2, fun _ => ⟨g, 0, rfl, fun j v hv => ?_⟩⟩
  have hj : j < ss.length := by
    by_cases q : j < ss.length
    · exact q
    · have e1 : encS.size = 1 := rfl
      rw [List.getElem?_eq_none (by rw [encS.all_length, e1]; simp; omega)] at hv; cases hv
  have h3 := (h j (by simpa using hj)).1
  have h4 := encS.all_at (ss.map ofL) j (by simpa using hj) 0 (by decide)
  have e1 : encS.size = 1 := rfl
  rw [e1, Nat.mul_one, Nat.add_zero, hv] at h4
  rw [h3]
  congr 1
  rw [getElem!_pos ss.toArray j (by simpa using hj)]
  have h5 : some v = some (.string (ofL ss[j])) := by
    rw [h4, List.getElem_map]
    rfl
  simp only [List.getElem_toArray]
  rw [encStr_of]
  exact (Option.some.inj h5).symm
open Go.Sort in
theorem row_grown {w w3 : World} {g n : Nat} {d : Array (List UInt8)} {os : Array Obj} (h : w3 = grow (putRow encStr (Sort.ahead w n) g 0 d) os) : w.grownBy w3 (some g) := by
  subst h
  refine ⟨rfl, rfl, rfl, by simp [putRow, Sort.grow, Sort.ahead, mapBlock], fun k hk hne => ?_⟩
  rw [heap_grow_old _ _ (by simpa [putRow, mapBlock, Sort.ahead] using hk)]
  have : g ≠ k := fun e => hne (by rw [e])
  simp [putRow, mapBlock, Sort.ahead, Array.getElem?_modify, this]
/-- what Sorted hands back -/
def SrtAt (w w' : World) (v : Value) (L : List ByteArray) : Prop := (v = .slice none 0 0 ∧ L = []) ∨ ∃ (g cap : Nat) (ss : List (List UInt8)), v = .slice (some ⟨g, 0, none⟩) ss.length cap ∧ w.heap.size ≤ g ∧ g < w'.heap.size ∧ Go.Sort.Holds encStr w' g 0 ss.toArray ∧ ss.length ≤ cap ∧ cap ≤ maxLen ∧ ss.Perm (L.map toL)
open Go.Sort in
theorem sortS_any (v : Value) (L : List ByteArray) (w w1 : World) (hw : w.heap.size ≤ w1.heap.size) (ho : OwnL encS 9 w1 w.heap.size v L) (hfew : L.length ≤ 1000000) :
    Calls Try.prog 89 #[v] w1 fun e w' => e = .returned (.tuple #[]) ∧ SrtAt w w' v L ∧ Below w.heap.size w1 w' := by
  rcases ho.2 with ⟨rfl, h0⟩ | ⟨g, cap, cur, rfl, hb, hg, hc, hm, -, -⟩
  · have hx : L = [] := List.length_eq_zero_iff.1 h0
    subst hx
    refine (Try.slices_Sort_string_none none 0 w1).mono ?_
    rintro e w' ⟨rfl, rfl⟩
    exact ⟨rfl, .inl ⟨rfl, rfl⟩, Below.refl _ _⟩
  · have hH := holds_ownS ho
    have hgl : g < w1.heap.size := heap_lt hg
    have h := Try.slices_Sort_string g 0 cap (L.map toL) w1 hH hgl (by simp; omega)
    rw [List.length_map] at h
    refine h.mono ?_
    rintro e w' ⟨rfl, n, os, hw'⟩
    have hg' := row_grown hw'
    have hperm := List.mergeSort_perm (L.map toL) (fun x y => decide (x ≤ y))
    generalize (L.map toL).mergeSort (fun x y => decide (x ≤ y)) = ss at *
    have hlen : ss.length = L.length := by simpa using hperm.length_eq
    have hH' : Go.Sort.Holds encStr w' g 0 ss.toArray := by
      rw [hw']
      exact holds_grow _ _ _ _ _ _ (by simpa [putRow, mapBlock, Sort.ahead] using hgl) (holds_putRow _ _ _ _ _ _ (holds_ahead _ _ n _ _ _ hH) (by simp [hlen]))
    refine ⟨rfl, .inr ⟨g, cap, ss, by rw [hlen], hb, Nat.lt_of_lt_of_le hgl hg'.size, hH', by omega, hm, hperm⟩, (Below.refl _ _).grown hg' hw (fun k hk => by cases hk; exact hb)⟩
theorem sortedS_any (Bs : Nat) (p : Option Addr) (n cap : Nat) (L : List ByteArray) (hfew : L.length ≤ 1000000) (w : World) (hBl : Bs < w.heap.size) (hBs : w.cell? ⟨Bs, 0, none⟩ = some (.slice p n cap)) (hs : SlIs encS w (.slice p n cap) L) :
    Calls Try.prog 72 #[.func (.func 90) #[] #[.pointer (some ⟨Bs, 0, none⟩)]] w fun e w' => ∃ v, e = .returned v ∧ SrtAt w w' v L ∧ Below w.heap.size w w' := by
  have h := collectS_any Bs p n cap L hfew w hBl hBs hs
  have HFEW := Lib.hid hfew
  clear hBs hs hfew
  go_enter Try.func72, Try.ntmps72
  go_wp2_with (first
    | (go_at_call 88; refine h.mono ?_; rintro e w1 ⟨v, rfl, ho, hb⟩; have HB := Lib.hid hb; have HSO := Lib.hid (sortS_any v L w w1 hb.size ho HFEW.out); clear h ho hb)
    | (go_at_call 89; refine HSO.out.mono ?_; rintro e w2 ⟨rfl, hs2, hb2⟩; have HS2 := Lib.hid hs2; have HB2 := Lib.hid (HB.out.trans hb2); clear hs2 hb2)
    | fail)
  go_ret
  exact ⟨v, rfl, HS2.out, HB2.out⟩
/-- a slice that lies in blocks of one's own -/
def FreshV (w : World) (v : Value) : Prop := ∀ a n c, v = .slice (some a) n c → w.heap.size ≤ a.block
open Go.Sort in
theorem compactS_any (v : Value) (L : List ByteArray) (w w1 : World) (hw : w.heap.size ≤ w1.heap.size) (ho : SrtAt w w1 v L) (hfew : L.length ≤ 1000000) :
    Calls Try.prog 71 #[v] w1 fun e w' => ∃ v' l, e = .returned v' ∧ (∀ x, x ∈ l ↔ x ∈ L) ∧ l.length ≤ L.length ∧ SlIs encS w' v' l ∧ FreshV w v' ∧ Below w.heap.size w1 w' := by
  rcases ho with ⟨rfl, rfl⟩ | ⟨g, cap, ss, rfl, hb, hgl, hH, hc, hm, hperm⟩
  · refine (Try.slices_Compact_string_empty none 0 w1).mono ?_
    rintro e w' ⟨rfl, rfl⟩
    exact ⟨_, [], rfl, fun _ => Iff.rfl, Nat.le_refl _, SlIs.isNil _ _, fun a n c e => (by cases e), Below.refl _ _⟩
  · have hlen : ss.length = L.length := by simpa using hperm.length_eq
    refine (Try.slices_Compact_string g 0 cap ss w1 hH (by omega) hc).mono ?_
    rintro e w' ⟨rfl, q, hw'⟩
    have hcl := compact_len ss
    have hcm := mem_compact ss
    generalize Lib.compact ss = zs at *
    have hH' : Go.Sort.Holds encStr w' g 0 (zs ++ List.replicate (ss.length - zs.length) []).toArray := by
      rw [hw']
      exact holds_putRow _ _ _ _ _ _ (holds_ahead _ _ q _ _ _ hH) (by simp; omega)
    have hz : Go.Sort.Holds encStr w' g 0 zs.toArray := by
      intro j hj
      have hj' : j < zs.length := by simpa using hj
      have := hH' j (by simp; omega)
      rw [getElem!_pos _ j (by simp; omega)] at this
      rw [getElem!_pos zs.toArray j hj]
      simpa [List.getElem_append_left hj'] using this
    have hg' : w1.grownBy w' (some g) := row_grown (os := #[]) (by rw [Sort.grow_empty]; exact hw')
    refine ⟨_, zs.map ofL, rfl, fun x => ?_, by rw [List.length_map]; omega, sl_holds hz (by omega) hm, fun a n c e => (by injection e with e; injection e with e; subst e; exact hb), (Below.refl _ _).grown hg' hw (fun k hk => by cases hk; exact hb)⟩
    rw [List.mem_map]
    constructor
    · rintro ⟨s, hs, rfl⟩
      have h1 := (hperm.mem_iff).1 ((hcm s).1 hs)
      obtain ⟨y, hy, rfl⟩ := List.mem_map.1 h1
      rw [ofL_toL]; exact hy
    · intro hx
      exact ⟨toL x, (hcm _).2 ((hperm.mem_iff).2 (List.mem_map.2 ⟨x, hx, rfl⟩)), ofL_toL x⟩
theorem ascending_any (p : Option Addr) (n cap : Nat) (L : List ByteArray) (hfew : L.length ≤ 1000000) (w : World) (hs : SlIs encS w (.slice p n cap) L) :
    Calls Try.prog 61 #[.slice p n cap] w fun e w' => ∃ v l, e = .returned v ∧ (∀ x, x ∈ l ↔ x ∈ L) ∧ l.length ≤ L.length ∧ SlIs encS w' v l ∧ FreshV w v ∧ Below w.heap.size w w' := by
  have HB0 := Lib.hid (below_box w (.cells #[.slice p n cap] 54))
  have h := sortedS_any w.heap.size p n cap L hfew (w.alloc (.cells #[.slice p n cap] 54)) (by simp) (cellsAt_alloc w [.slice p n cap] 54 0 _ rfl) (hs.below HB0.out)
  have HFEW := Lib.hid hfew
  clear hs hfew
  go_enter Try.func61, Try.ntmps61
  go_wp2_with (first
    | (go_at_call 73; refine (valuesS_any p n cap _).mono ?_; rintro e w1 ⟨rfl, rfl⟩)
    | (go_at_call 72; refine h.mono ?_; rintro e w2 ⟨v, rfl, h1, h2⟩; have HB2 := Lib.hid (bnext HB0.out h2); have HC := Lib.hid (compactS_any v L _ w2 h2.size h1 HFEW.out); clear h h1 h2)
    | (go_at_call 71; refine HC.out.mono ?_; rintro e w3 ⟨v', l, rfl, g1, g2, g3, g5, g4⟩; have HR : Hid ((∀ x, x ∈ l ↔ x ∈ L) ∧ l.length ≤ L.length ∧ SlIs encS w3 v' l ∧ FreshV w v' ∧ Below w.heap.size w w3) := ⟨g1, g2, g3, fun a n c e => Nat.le_trans (Nat.le_succ _) (by have := g5 a n c e; rw [World.size_alloc] at this; exact this), HB2.out.trans (g4.mono (by simp))⟩; clear g1 g2 g3 g4 g5)
    | fail)
  go_ret
  exact ⟨v', l, rfl, HR.out⟩
end Go.Proofs.Ytheigpiffdabnaa.Mds
