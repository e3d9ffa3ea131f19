/-
  PLAIN: what modules give: the least sets, how they are found, and that with more re-exports they only grow.
-/
import Derived.Test.YtheigpiffdabnaaBase
import Derived.Lib.Bytealg
namespace Go.Proofs.Ytheigpiffdabnaa.Mds
open Go
set_option linter.unusedVariables false
set_option linter.unusedSimpArgs false

abbrev Bd := ByteArray × ByteArray
structure Fc where
  mo : ByteArray
  own : List ByteArray
  pub : List ByteArray
def hidB (s : ByteArray) : Bool := Lib.hasPrefix s.data.toList [105, 109, 112, 108, 32]
def colons : ByteArray := ⟨#[58, 58]⟩
def defB (m n : ByteArray) : ByteArray := m ++ colons ++ n
def visL (l : List ByteArray) : List ByteArray := l.filter fun s => !hidB s
def bindsOf (m : ByteArray) (l : List ByteArray) : List Bd := (visL l).map fun s => (s, defB m s)
def ownB (f : Fc) : List Bd := bindsOf f.mo f.own
def hides (f : Fc) (n : ByteArray) : Bool := (visL f.own).any fun s => decide (s = n)
theorem hides_iff (f : Fc) (n : ByteArray) : hides f n = true ↔ n ∈ visL f.own := by
  unfold hides
  rw [List.any_eq_true]
  exact ⟨fun ⟨x, h1, h2⟩ => by have := of_decide_eq_true h2; subst this; exact h1, fun h => ⟨n, h, by simp⟩⟩
def firstI (l : List Fc) (m : ByteArray) : Option Nat := l.findIdx? fun f => decide (f.mo = m)

/-- what the faces give -/
inductive Giv (l : List Fc) : Nat → Bd → Prop
  | own {i : Nat} {f : Fc} {b : Bd} : l[i]? = some f → b ∈ ownB f → Giv l i b
  | took {i j : Nat} {f : Fc} {b : Bd} {m : ByteArray} : Giv l i b → l[j]? = some f → m ∈ f.pub → firstI l m = some i → hides f b.1 = false → Giv l j b

theorem Giv.lt {l : List Fc} {i : Nat} {b : Bd} (h : Giv l i b) : i < l.length := by
  cases h with
  | own h _ => exact (List.getElem?_eq_some_iff.1 h).1
  | took _ h _ _ _ => exact (List.getElem?_eq_some_iff.1 h).1
def univ (l : List Fc) : List Bd := l.flatMap ownB
theorem Giv.univ {l : List Fc} {i : Nat} {b : Bd} (h : Giv l i b) : b ∈ univ l := by
  induction h with
  | own h hb => exact List.mem_flatMap.2 ⟨_, List.mem_of_getElem? h, hb⟩
  | took _ _ _ _ _ ih => exact ih
theorem Giv.name {l : List Fc} {i : Nat} {b : Bd} (h : Giv l i b) : ∃ (j : Nat) (f : Fc), l[j]? = some f ∧ b ∈ ownB f := by
  induction h with
  | own h hb => exact ⟨_, _, h, hb⟩
  | took _ _ _ _ _ ih => exact ih

/-- one more re-export -/
theorem firstI_same {l l' : List Fc} (h : l'.map Fc.mo = l.map Fc.mo) (m : ByteArray) : firstI l' m = firstI l m := by
  have e : ∀ l : List Fc, firstI l m = (l.map Fc.mo).findIdx? (fun x => decide (x = m)) := fun l => by
    unfold firstI
    rw [List.findIdx?_map]
    rfl
  rw [e, e, h]
theorem Giv.more {l l' : List Fc} (hl : l'.length = l.length) (h : ∀ (i : Nat) (f : Fc), l[i]? = some f → ∃ f' : Fc, l'[i]? = some f' ∧ f'.mo = f.mo ∧ f'.own = f.own ∧ ∀ m ∈ f.pub, m ∈ f'.pub) {i : Nat} {b : Bd} (hg : Giv l i b) : Giv l' i b := by
  have hmo : l'.map Fc.mo = l.map Fc.mo := by
    refine List.ext_getElem? fun i => ?_
    rw [List.getElem?_map, List.getElem?_map]
    by_cases q : i < l.length
    · obtain ⟨f', h1, h2, -⟩ := h i l[i] (List.getElem?_eq_getElem q)
      rw [h1, List.getElem?_eq_getElem q]
      simp [h2]
    · rw [List.getElem?_eq_none (by omega), List.getElem?_eq_none (by omega)]
  induction hg with
  | own h1 hb =>
    obtain ⟨f', g1, g2, g3, _⟩ := h _ _ h1
    exact .own g1 (by unfold ownB at hb ⊢; rw [g2, g3]; exact hb)
  | took _ h1 hm hf hh ih =>
    obtain ⟨f', g1, g2, g3, g4⟩ := h _ _ h1
    exact .took ih g1 (g4 _ hm) (by rw [firstI_same hmo]; exact hf) (by unfold hides at hh ⊢; rw [g3]; exact hh)

/-! ### how they are found -/
/-- face j takes b, or has it, or hides it -/
def okTake (l : List Fc) (G : Nat → List Bd) (j : Nat) (b : Bd) : Prop := ∀ f : Fc, l[j]? = some f → hides f b.1 = true ∨ b ∈ G j
/-- tk i: the faces that re-export face i -/
def Takers (l : List Fc) (tk : Nat → List Nat) : Prop := ∀ i j : Nat, j ∈ tk i ↔ ∃ (f : Fc) (m : ByteArray), l[j]? = some f ∧ m ∈ f.pub ∧ firstI l m = some i
structure Spr (l : List Fc) (tk : Nat → List Nat) (G : Nat → List Bd) (O : List (Nat × Bd)) (Ex : Nat → Bd → Nat → Prop) : Prop where
  snd : ∀ i b, b ∈ G i → Giv l i b
  off : ∀ o ∈ O, o.2 ∈ G o.1
  own : ∀ (i : Nat) (f : Fc), l[i]? = some f → ∀ b ∈ ownB f, b ∈ G i
  clo : ∀ i b, b ∈ G i → (i, b) ∈ O ∨ ∀ j ∈ tk i, Ex i b j ∨ okTake l G j b
  nod : ∀ i, (G i).Nodup
def noEx : Nat → Bd → Nat → Prop := fun _ _ _ => False
theorem Spr.done {l : List Fc} {tk : Nat → List Nat} {G : Nat → List Bd} (htk : Takers l tk) (h : Spr l tk G [] noEx) (i : Nat) (b : Bd) : b ∈ G i ↔ Giv l i b := by
  refine ⟨h.snd i b, fun hg => ?_⟩
  induction hg with
  | own h1 hb => exact h.own _ _ h1 _ hb
  | @took i j f b m _ h1 hm hf hh ih =>
    rcases h.clo i b ih with q | q
    · cases q
    · rcases q j ((htk i j).2 ⟨f, m, h1, hm, hf⟩) with q | q
      · exact q.elim
      · rcases q f h1 with q | q
        · rw [hh] at q; cases q
        · exact q
/-- an offer is taken up -/
theorem Spr.pop {l : List Fc} {tk : Nat → List Nat} {G : Nat → List Bd} {O : List (Nat × Bd)} {f : Nat} {b : Bd} (h : Spr l tk G (O ++ [(f, b)]) noEx) : Spr l tk G O (fun i c j => i = f ∧ c = b ∧ j ∈ tk f) := by
  refine ⟨h.snd, fun o ho => h.off o (List.mem_append.2 (.inl ho)), h.own, fun i c hc => ?_, h.nod⟩
  rcases h.clo i c hc with q | q
  · rcases List.mem_append.1 q with q | q
    · exact .inl q
    · rw [List.mem_singleton] at q
      cases q
      exact .inr fun j hj => .inl ⟨rfl, rfl, hj⟩
  · exact .inr fun j hj => (q j hj).imp (fun e => e.elim) id
/-- .. by a face that does not take it -/
theorem Spr.skip {l : List Fc} {tk : Nat → List Nat} {G : Nat → List Bd} {O : List (Nat × Bd)} {f : Nat} {b : Bd} {j : Nat} {r : List Nat} (h : Spr l tk G O (fun i c k => i = f ∧ c = b ∧ k ∈ j :: r)) (hj : okTake l G j b) : Spr l tk G O (fun i c k => i = f ∧ c = b ∧ k ∈ r) := by
  refine ⟨h.snd, h.off, h.own, fun i c hc => (h.clo i c hc).imp id fun q k hk => ?_, h.nod⟩
  rcases q k hk with ⟨e1, e2, e3⟩ | q
  · rcases List.mem_cons.1 e3 with e3 | e3
    · subst e1; subst e2; subst e3; exact .inr hj
    · exact .inl ⟨e1, e2, e3⟩
  · exact .inr q
def putG (G : Nat → List Bd) (j : Nat) (b : Bd) : Nat → List Bd := fun i => if i = j then G i ++ [b] else G i
theorem mem_putG {G : Nat → List Bd} {j : Nat} {b : Bd} {i : Nat} {c : Bd} : c ∈ putG G j b i ↔ c ∈ G i ∨ (i = j ∧ c = b) := by
  unfold putG
  split
  · rename_i e; simp [e]
  · rename_i e; simp [e]
theorem okTake_put {l : List Fc} {G : Nat → List Bd} {j k : Nat} {b c : Bd} (h : okTake l G k c) : okTake l (putG G j b) k c := fun f hf => (h f hf).imp id fun q => mem_putG.2 (.inl q)
/-- .. by a face that takes it -/
theorem Spr.take {l : List Fc} {tk : Nat → List Nat} {G : Nat → List Bd} {O : List (Nat × Bd)} {f : Nat} {b : Bd} {j : Nat} {r : List Nat} (h : Spr l tk G O (fun i c k => i = f ∧ c = b ∧ k ∈ j :: r)) (hg : Giv l j b) (hn : b ∉ G j) : Spr l tk (putG G j b) (O ++ [(j, b)]) (fun i c k => i = f ∧ c = b ∧ k ∈ r) := by
  refine ⟨fun i c hc => ?_, fun o ho => ?_, fun i g hi c hc => mem_putG.2 (.inl (h.own i g hi c hc)), fun i c hc => ?_, fun i => ?_⟩
  · rcases mem_putG.1 hc with q | ⟨rfl, rfl⟩
    · exact h.snd i c q
    · exact hg
  · rcases List.mem_append.1 ho with q | q
    · exact mem_putG.2 (.inl (h.off o q))
    · rw [List.mem_singleton] at q; subst q; exact mem_putG.2 (.inr ⟨rfl, rfl⟩)
  · rcases mem_putG.1 hc with q | ⟨rfl, rfl⟩
    · rcases h.clo i c q with q | q
      · exact .inl (List.mem_append.2 (.inl q))
      · refine .inr fun k hk => ?_
        rcases q k hk with ⟨e1, e2, e3⟩ | q
        · rcases List.mem_cons.1 e3 with e3 | e3
          · subst e1; subst e2; subst e3
            exact .inr fun _ _ => .inr (mem_putG.2 (.inr ⟨rfl, rfl⟩))
          · exact .inl ⟨e1, e2, e3⟩
        · exact .inr (okTake_put q)
    · exact .inl (List.mem_append.2 (.inr (by simp)))
  · unfold putG
    split
    · rename_i e
      subst e
      rw [List.nodup_append]
      exact ⟨h.nod i, by simp, fun a ha c hc e => by rw [List.mem_singleton] at hc; subst hc; subst e; exact hn ha⟩
    · exact h.nod i
theorem Spr.next {l : List Fc} {tk : Nat → List Nat} {G : Nat → List Bd} {O : List (Nat × Bd)} {f : Nat} {b : Bd} (h : Spr l tk G O (fun i c k => i = f ∧ c = b ∧ k ∈ ([] : List Nat))) : Spr l tk G O noEx :=
  ⟨h.snd, h.off, h.own, fun i c hc => (h.clo i c hc).imp id fun q k hk => (q k hk).imp (fun e => (by cases e.2.2)) id, h.nod⟩

/-! ### how long it takes -/
def sumG (G : Nat → List Bd) : Nat → Nat
  | 0 => 0
  | k + 1 => sumG G k + (G k).length
theorem sumG_put {G : Nat → List Bd} {j : Nat} {b : Bd} : ∀ (k : Nat), sumG (putG G j b) k = sumG G k + (if j < k then 1 else 0)
  | 0 => by simp [sumG]
  | k + 1 => by
    unfold sumG
    rw [sumG_put k]
    unfold putG
    by_cases e : k = j
    · subst e; simp; omega
    · rw [if_neg e]
      by_cases q : j < k
      · rw [if_pos q, if_pos (by omega)]; omega
      · rw [if_neg q, if_neg (by omega)]; omega
theorem nodup_le {l u : List Bd} (h : l.Nodup) (hs : ∀ b ∈ l, b ∈ u) : l.length ≤ u.length := List.Nodup.length_le_of_subset h (fun b hb => hs b hb)
theorem sumG_le {G : Nat → List Bd} {u : Nat} (h : ∀ i, (G i).length ≤ u) : ∀ k, sumG G k ≤ k * u
  | 0 => by simp [sumG]
  | k + 1 => by
    unfold sumG
    have := sumG_le h k
    have := h k
    rw [Nat.succ_mul]
    omega
theorem Spr.few {l : List Fc} {tk : Nat → List Nat} {G : Nat → List Bd} {O : List (Nat × Bd)} {Ex : Nat → Bd → Nat → Prop} (h : Spr l tk G O Ex) (i : Nat) : (G i).length ≤ (univ l).length := nodup_le (h.nod i) fun b hb => (h.snd i b hb).univ

/-! ### lists in their order -/
def cmpS (a b : ByteArray) : Int := Lib.compareBytes a.data.toList b.data.toList
def bcmp (a b : Bd) : Int := if cmpS a.1 b.1 ≠ 0 then cmpS a.1 b.1 else cmpS a.2 b.2
theorem cb_vals : ∀ (x y : List UInt8), Lib.compareBytes x y = 0 ∨ Lib.compareBytes x y = 1 ∨ Lib.compareBytes x y = -1
  | [], [] => by simp [Lib.compareBytes]
  | [], _ :: _ => by simp [Lib.compareBytes]
  | _ :: _, [] => by simp [Lib.compareBytes]
  | a :: x, b :: y => by
    unfold Lib.compareBytes
    split
    · simp
    · split
      · simp
      · exact cb_vals x y
theorem cb_neg : ∀ (x y : List UInt8), Lib.compareBytes y x = - Lib.compareBytes x y
  | [], [] => by simp [Lib.compareBytes]
  | [], _ :: _ => by simp [Lib.compareBytes]
  | _ :: _, [] => by simp [Lib.compareBytes]
  | a :: x, b :: y => by
    unfold Lib.compareBytes
    by_cases h1 : a < b
    · have h2 : ¬ b < a := UInt8.lt_asymm h1
      simp [h1, h2]
    · by_cases h2 : b < a
      · simp [h1, h2]
      · simp [h1, h2, cb_neg x y]
theorem cb_zero : ∀ {x y : List UInt8}, Lib.compareBytes x y = 0 → x = y
  | [], [], _ => rfl
  | [], _ :: _, h => by simp [Lib.compareBytes] at h
  | _ :: _, [], h => by simp [Lib.compareBytes] at h
  | a :: x, b :: y, h => by
    unfold Lib.compareBytes at h
    split at h
    · cases h
    · split at h
      · cases h
      · rename_i h1 h2
        rw [cb_zero h, show a = b from UInt8.le_antisymm (UInt8.not_lt.1 h2) (UInt8.not_lt.1 h1)]
theorem cb_trans : ∀ {x y z : List UInt8}, Lib.compareBytes x y < 0 → Lib.compareBytes y z < 0 → Lib.compareBytes x z < 0
  | [], [], z, h, g => g
  | [], _ :: _, [], h, g => by simp [Lib.compareBytes] at g
  | [], _ :: _, _ :: _, h, g => by simp [Lib.compareBytes]
  | _ :: _, [], _, h, g => by simp [Lib.compareBytes] at h
  | _ :: _, _ :: _, [], h, g => by simp [Lib.compareBytes] at g
  | a :: x, b :: y, c :: z, h, g => by
    unfold Lib.compareBytes at h g ⊢
    by_cases h1 : a < b
    · by_cases g1 : b < c
      · rw [if_pos (UInt8.lt_trans h1 g1)]; decide
      · rw [if_neg g1] at g
        by_cases g2 : c < b
        · rw [if_pos g2] at g; cases g
        · have : b = c := UInt8.le_antisymm (UInt8.not_lt.1 g2) (UInt8.not_lt.1 g1)
          subst this
          rw [if_pos h1]; decide
    · rw [if_neg h1] at h
      by_cases h2 : b < a
      · rw [if_pos h2] at h; cases h
      · rw [if_neg h2] at h
        have : a = b := UInt8.le_antisymm (UInt8.not_lt.1 h2) (UInt8.not_lt.1 h1)
        subst this
        by_cases g1 : a < c
        · rw [if_pos g1]; decide
        · rw [if_neg g1] at g ⊢
          by_cases g2 : c < a
          · rw [if_pos g2] at g; cases g
          · rw [if_neg g2] at g ⊢
            exact cb_trans h g
theorem bytes_ext {a b : ByteArray} (h : a.data.toList = b.data.toList) : a = b := by
  cases a with | mk x => cases b with | mk y => congr 1; exact Array.toList_inj.1 h
theorem bcmp_neg (a b : Bd) : bcmp b a = - bcmp a b := by
  unfold bcmp cmpS
  rw [cb_neg a.1.data.toList b.1.data.toList, cb_neg a.2.data.toList b.2.data.toList]
  by_cases h : Lib.compareBytes a.1.data.toList b.1.data.toList = 0
  · simp [h]
  · rw [if_pos (by omega), if_pos h]
theorem bcmp_zero {a b : Bd} (h : bcmp a b = 0) : a = b := by
  unfold bcmp cmpS at h
  by_cases q : Lib.compareBytes a.1.data.toList b.1.data.toList = 0
  · rw [if_neg (by simp [q])] at h
    exact Prod.ext (bytes_ext (cb_zero q)) (bytes_ext (cb_zero h))
  · rw [if_pos q] at h; exact absurd h q
theorem bcmp_trans {a b c : Bd} (h : bcmp a b < 0) (g : bcmp b c < 0) : bcmp a c < 0 := by
  unfold bcmp cmpS at h g ⊢
  by_cases q : Lib.compareBytes a.1.data.toList b.1.data.toList = 0
  · rw [if_neg (by simp [q])] at h
    rw [cb_zero q]
    by_cases r : Lib.compareBytes b.1.data.toList c.1.data.toList = 0
    · rw [if_neg (by simp [r])] at g ⊢
      exact cb_trans h g
    · rw [if_pos r] at g ⊢
      exact g
  · rw [if_pos q] at h
    by_cases r : Lib.compareBytes b.1.data.toList c.1.data.toList = 0
    · rw [← cb_zero r, if_pos q]
      exact h
    · rw [if_pos r] at g
      have := cb_trans h g
      rw [if_pos (by omega)]
      exact this
def AscB (l : List Bd) : Prop := l.Pairwise fun a b => bcmp a b < 0
theorem AscB.eq : ∀ {l m : List Bd}, AscB l → AscB m → (∀ b, b ∈ l ↔ b ∈ m) → l = m
  | [], [], _, _, _ => rfl
  | [], b :: m, _, _, h => by have := (h b).2 (by simp); cases this
  | a :: l, [], _, _, h => by have := (h a).1 (by simp); cases this
  | a :: l, b :: m, hl, hm, h => by
    have hl' := List.pairwise_cons.1 hl
    have hm' := List.pairwise_cons.1 hm
    have e : a = b := by
      rcases List.mem_cons.1 ((h a).1 (by simp)) with q | q
      · exact q
      · rcases List.mem_cons.1 ((h b).2 (by simp)) with r | r
        · exact r.symm
        · have h1 := hm'.1 a q
          have h2 := hl'.1 b r
          rw [bcmp_neg] at h1
          omega
    subst e
    have irr : ¬ bcmp a a < 0 := by have := bcmp_neg a a; omega
    congr 1
    refine AscB.eq hl'.2 hm'.2 fun c => ?_
    constructor
    · intro hc
      rcases List.mem_cons.1 ((h c).1 (List.mem_cons_of_mem _ hc)) with q | q
      · subst q; exact absurd (hl'.1 c hc) irr
      · exact q
    · intro hc
      rcases List.mem_cons.1 ((h c).2 (List.mem_cons_of_mem _ hc)) with q | q
      · subst q; exact absurd (hm'.1 c hc) irr
      · exact q
end Go.Proofs.Ytheigpiffdabnaa.Mds
