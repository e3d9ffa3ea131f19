/-
  LAWS: a row of types of one's own that grows, while dice are thrown.
-/
import Derived.Test.YtbnnokibjccdaaaDr
import Derived.Test.YtbnnokibjccdaaaTpE0
namespace Go.Proofs.Ytbnnokibjccdaaa
open Go Go.RowKit Go.Maps
set_option linter.unusedVariables false
set_option linter.unusedSimpArgs false
set_option maxRecDepth 1000000

abbrev tpT : TypeId := 24
/-- a type is as it was where its blocks are -/
theorem IsP.keepB {A : Nat → Prop} {w w' : World} {r : Rw} {t : Tp} (h : IsP A w r t) (hk : ∀ b, A b → b < w.heap.size → w'.heap[b]? = w.heap[b]?) : IsP A w' r t := by
  induction h with
  | mk s p n cap R l hs hp hA hl _ ih =>
    exact .mk s p n cap R l (SlIs.butN (M := fun a => ¬ A a.block) hs (fun a v hc hm => by
      rw [World.cell?_of_block (w := w) (hk a.block (Classical.not_not.1 hm) (World.block_lt_of_cell? w _ hc))]; exact hc) (fun b o i e h0 q => q (hA b o e h0))) hp hA hl ih
/-- where the types of a row lie: behind base, and not in the row -/
def offRow (base : Nat) (v : Value) : Nat → Prop := fun k => base ≤ k ∧ some k ≠ v.ownBlock
/-- a row of types of one's own -/
structure TRow (w : World) (base : Nat) (v : Value) (R : List Rw) (l : List Tp) : Prop where
  own : OwnL rwEnc tpT w base v R
  len : R.length = l.length
  at_ : ∀ i (h1 : i < R.length) (h2 : i < l.length), IsP (offRow base v) w R[i] l[i]
theorem TRow.isNil (w : World) (base : Nat) : TRow w base (.slice none 0 0) [] [] := ⟨OwnL.isNil _ _ _ _, rfl, fun i h => absurd h (Nat.not_lt_zero i)⟩
theorem TRow.below {w w' : World} {base : Nat} {v : Value} {R : List Rw} {l : List Tp} (h : TRow w base v R l) (hb : Below w.heap.size w w') : TRow w' base v R l :=
  ⟨OwnL.below h.own hb, h.len, fun i a b => (h.at_ i a b).later hb⟩
theorem TRow.dr {d : Dice} {w w' : World} {base s0 : Nat} {v : Value} {R : List Rw} {l : List Tp} (h : TRow w base v R l) (hd : Dr d s0 w w') (hD : d.D < base) (hs : w.heap.size ≤ s0) : TRow w' base v R l :=
  ⟨own_dr h.own hd hD hs, h.len, fun i a b => (h.at_ i a b).keepB (fun k hk hlt => hd.block k (by omega) (by have := hk.1; omega))⟩
/-- the row with one more -/
theorem TRow.push {w w' : World} {base : Nat} {v v' : Value} {R : List Rw} {l : List Tp} {q : Rw} {t : Tp} (h : TRow w base v R l) (hg : w.grownBy w' v.ownBlock) (hv : OwnL rwEnc tpT w' base v' (R ++ [q]))
    (hat : v'.ownBlock = v.ownBlock ∨ v'.ownBlock = some w.heap.size) (hq : IsP (offRow base v) w q t) (hin : ∀ (A : Nat → Prop) q t, IsP A w q t → IsP (fun k => A k ∧ k < w.heap.size) w q t) : TRow w' base v' (R ++ [q]) (l ++ [t]) := by
  have key : ∀ q t, IsP (offRow base v) w q t → IsP (offRow base v') w' q t := fun q t h => by
    have h1 := (hin _ q t h).keepB (w' := w') (fun k hk hlt => hg.block k hlt hk.1.2)
    refine h1.mono (fun k hk => ⟨hk.1.1, ?_⟩)
    rcases hat with e | e
    · rw [e]; exact hk.1.2
    · rw [e]; intro q; injection q with q; have := hk.2; omega
  refine ⟨hv, by simp [h.len], fun i a b => ?_⟩
  by_cases e : i < l.length
  · rw [List.getElem_append_left (by rw [h.len]; exact e), List.getElem_append_left e]
    exact key _ _ (h.at_ i _ e)
  · have e' : i = l.length := by simp at b; omega
    subst e'
    rw [List.getElem_append_right (Nat.le_refl _), List.getElem_append_right (by rw [h.len]; exact Nat.le_refl _)]
    simp only [h.len, Nat.sub_self, List.getElem_cons_zero]
    exact key _ _ hq
/-- the blocks of a type are there -/
theorem IsP.here {A : Nat → Prop} {w : World} {r : Rw} {t : Tp} (h : IsP A w r t) : IsP (fun k => A k ∧ k < w.heap.size) w r t := by
  induction h with
  | mk s p n cap R l hs hp hA hl _ ih =>
    refine .mk s p n cap R l hs hp (fun b o e h0 => ⟨hA b o e h0, ?_⟩) hl ih
    obtain ⟨hn, h2, h3, h4⟩ := hs.lies
    obtain ⟨b', off, e', hc⟩ := h4 (by omega)
    rw [e] at e'
    injection e' with e'
    injection e' with e1 _ _
    have hR : 0 < R.length := by omega
    have := hc.elem 0 hR 0 (by decide) _ rfl
    rw [e1]
    exact World.block_lt_of_cell? w _ this
/-- the row, as a list that has been made -/
theorem TRow.fin {w : World} {base : Nat} {v : Value} {R : List Rw} {l : List Tp} (h : TRow w base v R l) : ∃ p c, v = .slice p l.length c ∧ IsPs (fun k => base ≤ k) w v l := by
  have hs := h.own.sl
  have hl := h.len
  rcases h.own.2 with ⟨rfl, h0⟩ | ⟨g, cap, cur, rfl, hb, hg, hr⟩
  · have e : l = [] := List.eq_nil_of_length_eq_zero (by omega)
    subst e
    exact ⟨none, 0, rfl, IsPs.isNil _ _⟩
  · refine ⟨some ⟨g, 0, none⟩, cap, by rw [hl], some ⟨g, 0, none⟩, R.length, cap, R, rfl, hs, (fun e => by cases e), fun b o e _ => ?_, hl, fun i a b => (h.at_ i a b).mono (fun k hk => hk.1)⟩
    injection e with e
    injection e with e _ _
    omega
end Go.Proofs.Ytbnnokibjccdaaa
