/-
  PLAIN: two lists of tokens of the same kinds and texts are read as trees that are alike but for their places.
-/
import Derived.Test.YtheigpiffdabnaaGreatZA13
set_option linter.unusedSimpArgs false
set_option linter.unusedVariables false
namespace Go.Proofs.YtheigpiffdabnaaGreat
open Go Go.RowKit
/-- token by token alike, and the places are related -/
structure Sim (P : Int → Int → Prop) (r r' : Rdr) : Prop where
 len : r'.L.length = r.L.length
 kind : ∀ i, (r'.L.getD i tok0).kind = (r.L.getD i tok0).kind
 text : ∀ i, (r'.L.getD i tok0).text = (r.L.getD i tok0).text
 at_ : ∀ i, i < r.L.length → P (r.L.getD i tok0).at_ (r'.L.getD i tok0).at_
 ends : EndAt r
 ints : IntAt r
/-- trees that are alike but for their places -/
inductive TR (P : Int → Int → Prop) : Tree → Tree → Prop
 | mk {k : Int} {s : ByteArray} {a a' : Int} {l l' : List Tree} : P a a' → l.length = l'.length → (∀ i (h : i < l.length) (h' : i < l'.length), TR P l[i] l'[i]) → TR P (.mk k s a l) (.mk k s a' l')
def LR (P : Int → Int → Prop) (l l' : List Tree) : Prop := l.length = l'.length ∧ ∀ i (h : i < l.length) (h' : i < l'.length), TR P l[i] l'[i]
theorem TR.of {P : Int → Int → Prop} {k : Int} {s : ByteArray} {a a' : Int} {l l' : List Tree} (h : P a a') (hl : LR P l l') : TR P (.mk k s a l) (.mk k s a' l') := .mk h hl.1 hl.2
theorem TR.at_ {P : Int → Int → Prop} {t t' : Tree} (h : TR P t t') : P t.at_ t'.at_ := by cases h with | mk h1 h2 h3 => exact h1
theorem TR.kind {P : Int → Int → Prop} {t t' : Tree} (h : TR P t t') : t'.kind = t.kind := by cases h with | mk h1 h2 h3 => rfl
theorem LR.nil {P : Int → Int → Prop} : LR P [] [] := ⟨rfl, fun i h _ => absurd h (Nat.not_lt_zero i)⟩
theorem LR.cons {P : Int → Int → Prop} {t t' : Tree} {l l' : List Tree} (h : TR P t t') (hl : LR P l l') : LR P (t :: l) (t' :: l') := by
 refine ⟨by simp [hl.1], fun i h1 h2 => ?_⟩
 cases i with
 | zero => exact h
 | succ i => exact hl.2 i (by simpa using h1) (by simpa using h2)
theorem LR.append {P : Int → Int → Prop} {l l' m m' : List Tree} (hl : LR P l l') (hm : LR P m m') : LR P (l ++ m) (l' ++ m') := by
 refine ⟨by simp [hl.1, hm.1], fun i h1 h2 => ?_⟩
 by_cases h : i < l.length
 ·rw [List.getElem_append_left h, List.getElem_append_left (by rw [← hl.1]; exact h)]
  exact hl.2 i h _
 ·rw [List.getElem_append_right (by omega), List.getElem_append_right (by have := hl.1; omega)]
  have e : i - l.length = i - l'.length := by rw [hl.1]
  simp only [e]
  exact hm.2 _ _ _
theorem LR.one {P : Int → Int → Prop} {t t' : Tree} (h : TR P t t') : LR P [t] [t'] := .cons h .nil
theorem LR.two {P : Int → Int → Prop} {t t' u u' : Tree} (h : TR P t t') (h2 : TR P u u') : LR P [t, u] [t', u'] := .cons h (.one h2)
theorem LR.last {P : Int → Int → Prop} {l l' : List Tree} (h : LR P l l') : noValue l' = noValue l := by
 unfold noValue
 rcases Nat.eq_zero_or_pos l.length with h0 | h0
 ·have e1 := List.eq_nil_of_length_eq_zero h0
  have e2 := List.eq_nil_of_length_eq_zero (h.1 ▸ h0 : l'.length = 0)
  rw [e1, e2]
 ·have h1 : l.length - 1 < l.length := by omega
  have h2 : l'.length - 1 < l'.length := by have := h.1; omega
  have e1 : l.getLast? = some l[l.length - 1] := by rw [List.getLast?_eq_getElem?]; exact List.getElem?_eq_getElem h1
  have e2 : l'.getLast? = some l'[l'.length - 1] := by rw [List.getLast?_eq_getElem?]; exact List.getElem?_eq_getElem h2
  rw [e1, e2]
  have e : l'.length - 1 = l.length - 1 := by rw [h.1]
  have := h.2 (l.length - 1) h1 (by omega)
  show isStmtK _ = isStmtK _
  rw [← this.kind]
  simp only [e]
-- what both readers end in
def RE {α : Type} (r : Rdr) (R : α → α → Prop) (i : Nat) (e e' : Except Nat (α × Nat)) : Prop :=
 (∃ k, e = .error k ∧ e' = .error k ∧ i ≤ k ∧ k < r.L.length) ∨ ∃ x x' j, e = .ok (x, j) ∧ e' = .ok (x', j) ∧ R x x' ∧ i ≤ j ∧ j < r.L.length
theorem RE.ok {α : Type} {r : Rdr} {R : α → α → Prop} {i j : Nat} {x x' : α} (h : R x x') (hi : i ≤ j) (hj : j < r.L.length) : RE r R i (.ok (x, j)) (.ok (x', j)) := .inr ⟨x, x', j, rfl, rfl, h, hi, hj⟩
theorem RE.err {α : Type} {r : Rdr} {R : α → α → Prop} {i k : Nat} (hi : i ≤ k) (hk : k < r.L.length) : RE r R i (.error k) (.error k) := .inl ⟨k, rfl, rfl, hi, hk⟩
theorem RE.mono {α : Type} {r : Rdr} {R : α → α → Prop} {i i' : Nat} {e e' : Except Nat (α × Nat)} (h : RE r R i' e e') (hi : i ≤ i') : RE r R i e e' := by
 rcases h with ⟨k, h1, h2, h3, h4⟩ | ⟨x, x', j, h1, h2, h3, h4, h5⟩
 ·exact .inl ⟨k, h1, h2, by omega, h4⟩
 ·exact .inr ⟨x, x', j, h1, h2, h3, by omega, h5⟩
variable {P : Int → Int → Prop} {r r' : Rdr}
theorem Sim.mark (S : Sim P r r') (i : Nat) (sg : ByteArray) : isMark r' i sg = isMark r i sg := by unfold isMark; rw [S.text i]
def TkR (P : Int → Int → Prop) (t t' : Lx.Tok) : Prop := t'.kind = t.kind ∧ t'.text = t.text ∧ P t.at_ t'.at_
-- types and items
-- modules
def IR (P : Int → Int → Prop) (l l' : List Int) : Prop := l.length = l'.length ∧ ∀ i (h : i < l.length) (h' : i < l'.length), P l[i] l'[i]
theorem IR.nil {P : Int → Int → Prop} : IR P [] [] := ⟨rfl, fun i h _ => absurd h (Nat.not_lt_zero i)⟩
theorem IR.snoc {P : Int → Int → Prop} {l l' : List Int} {a a' : Int} (hl : IR P l l') (ha : P a a') : IR P (l ++ [a]) (l' ++ [a']) := by
 refine ⟨by simp [hl.1], fun i h1 h2 => ?_⟩
 by_cases h : i < l.length
 ·rw [List.getElem_append_left h, List.getElem_append_left (by rw [← hl.1]; exact h)]
  exact hl.2 i h _
 ·have e1 : i = l.length := by simp only [List.length_append, List.length_cons, List.length_nil] at h1; omega
  have e2 : i = l'.length := by rw [e1, hl.1]
  rw [List.getElem_append_right (by omega), List.getElem_append_right (by omega)]
  simp only [List.getElem_singleton]
  exact ha
end Go.Proofs.YtheigpiffdabnaaGreat
namespace Go.Proofs.YtheigpiffdabnaaGreat
open Go Go.RowKit
/-- the first n tokens of r lie in r' from o on -/
structure Seg (r r' : Rdr) (o n : Nat) : Prop where
 kind : ∀ i, i < n → (r'.L.getD (o + i) tok0).kind = (r.L.getD i tok0).kind
 text : ∀ i, i < n → (r'.L.getD (o + i) tok0).text = (r.L.getD i tok0).text
 len : r.L.length ≤ r'.L.length
abbrev PA : Int → Int → Prop := fun _ _ => True
theorem TR.self : ∀ t : Tree, TR PA t t
 | .mk k s a l => .mk trivial rfl fun i h h' => TR.self l[i]
termination_by t => SizeOf.sizeOf t
decreasing_by
 have := List.sizeOf_lt_of_mem (List.getElem_mem h)
 simp only [Tree.mk.sizeOf_spec]
 omega
theorem LR.self (l : List Tree) : LR PA l l := ⟨rfl, fun i h h' => TR.self _⟩
theorem Seg.mark {r r' : Rdr} {o n : Nat} (S : Seg r r' o n) {i : Nat} (h : i < n) (sg : ByteArray) : isMark r' (o + i) sg = isMark r i sg := by unfold isMark; rw [S.text i h]
/-- from any token of these on: what ends among them -/
def Loc {α : Type} (o n : Nat) (R : α → α → Prop) (p p' : PM α) : Prop := ∀ i x j, p i = .ok (x, j) → i ≤ j ∧ (j < n → ∃ x', p' (o + i) = .ok (x', o + j) ∧ R x x')
/-- what ends with a token of its own -/
def LocE {α : Type} (o n : Nat) (R : α → α → Prop) (p p' : PM α) : Prop := ∀ i x j, p i = .ok (x, j) → i < j ∧ (j ≤ n → ∃ x', p' (o + i) = .ok (x', o + j) ∧ R x x')
variable {o n : Nat} {r r' : Rdr}
theorem LocE.loc {α : Type} {R : α → α → Prop} {p p' : PM α} (h : LocE o n R p p') : Loc o n R p p' := fun i x j e => ⟨Nat.le_of_lt (h i x j e).1, fun hj => (h i x j e).2 (Nat.le_of_lt hj)⟩
theorem bind_inv {α β : Type} {p : PM α} {f : α → PM β} {i j : Nat} {y : β} (h : bindM p f i = .ok (y, j)) : ∃ x m, p i = .ok (x, m) ∧ f x m = .ok (y, j) := by
 unfold bindM at h
 cases hp : p i with
 | error k => rw [hp] at h; cases h
 | ok z => obtain ⟨x, m⟩ := z; rw [hp] at h; exact ⟨x, m, rfl, h⟩
theorem loc_bind {α β : Type} {R : α → α → Prop} {Q : β → β → Prop} {p p' : PM α} {f f' : α → PM β} (hR : ∀ x, R x x) (hp : Loc o n R p p') (hf : ∀ x x', R x x' → Loc o n Q (f x) (f' x')) : Loc o n Q (bindM p f) (bindM p' f') := by
 intro i y j h
 obtain ⟨x, m, h1, h2⟩ := bind_inv h
 obtain ⟨a1, a2⟩ := hp i x m h1
 have b1 := (hf x x (hR x) m y j h2).1
 refine ⟨by omega, fun hj => ?_⟩
 obtain ⟨x', e, hx⟩ := a2 (by omega)
 obtain ⟨y', e2, hy⟩ := (hf x x' hx m y j h2).2 hj
 exact ⟨y', by unfold bindM; rw [e]; exact e2, hy⟩
theorem loc_bindE {α β : Type} {R : α → α → Prop} {Q : β → β → Prop} {p p' : PM α} {f f' : α → PM β} (hR : ∀ x, R x x) (hp : Loc o n R p p') (hf : ∀ x x', R x x' → LocE o n Q (f x) (f' x')) : LocE o n Q (bindM p f) (bindM p' f') := by
 intro i y j h
 obtain ⟨x, m, h1, h2⟩ := bind_inv h
 obtain ⟨a1, a2⟩ := hp i x m h1
 have b1 := (hf x x (hR x) m y j h2).1
 refine ⟨by omega, fun hj => ?_⟩
 obtain ⟨x', e, hx⟩ := a2 (by omega)
 obtain ⟨y', e2, hy⟩ := (hf x x' hx m y j h2).2 hj
 exact ⟨y', by unfold bindM; rw [e]; exact e2, hy⟩
/-- what was read last, and a value -/
theorem locE_map {α β : Type} {R : α → α → Prop} {Q : β → β → Prop} {p p' : PM α} {g g' : α → β} (hp : LocE o n R p p') (hg : ∀ x x', R x x' → Q (g x) (g' x')) : LocE o n Q (bindM p fun x => pureM (g x)) (bindM p' fun x => pureM (g' x)) := by
 intro i y j h
 obtain ⟨x, m, h1, h2⟩ := bind_inv h
 have h3 : Except.ok (ε := Nat) (g x, m) = .ok (y, j) := h2
 simp only [Except.ok.injEq, Prod.mk.injEq] at h3
 obtain ⟨rfl, rfl⟩ := h3
 obtain ⟨a1, a2⟩ := hp i x m h1
 refine ⟨a1, fun hj => ?_⟩
 obtain ⟨x', e, hx⟩ := a2 hj
 exact ⟨g' x', by unfold bindM; rw [e]; rfl, hg x x' hx⟩
theorem loc_beq {α β : Type} {Q : β → β → Prop} {p p' : PM α} {f f' : α → PM β} (hp : Loc o n Eq p p') (hf : ∀ x, Loc o n Q (f x) (f' x)) : Loc o n Q (bindM p f) (bindM p' f') := loc_bind (fun _ => rfl) hp fun x x' e => by subst e; exact hf x
theorem loc_beqE {α β : Type} {Q : β → β → Prop} {p p' : PM α} {f f' : α → PM β} (hp : Loc o n Eq p p') (hf : ∀ x, LocE o n Q (f x) (f' x)) : LocE o n Q (bindM p f) (bindM p' f') := loc_bindE (fun _ => rfl) hp fun x x' e => by subst e; exact hf x
theorem loc_bt {β : Type} {Q : β → β → Prop} {p p' : PM Tree} {f f' : Tree → PM β} (hp : Loc o n (TR PA) p p') (hf : ∀ x x', TR PA x x' → Loc o n Q (f x) (f' x')) : Loc o n Q (bindM p f) (bindM p' f') := loc_bind TR.self hp hf
theorem loc_btE {β : Type} {Q : β → β → Prop} {p p' : PM Tree} {f f' : Tree → PM β} (hp : Loc o n (TR PA) p p') (hf : ∀ x x', TR PA x x' → LocE o n Q (f x) (f' x')) : LocE o n Q (bindM p f) (bindM p' f') := loc_bindE TR.self hp hf
theorem loc_bl {β : Type} {Q : β → β → Prop} {p p' : PM (List Tree)} {f f' : List Tree → PM β} (hp : Loc o n (LR PA) p p') (hf : ∀ x x', LR PA x x' → Loc o n Q (f x) (f' x')) : Loc o n Q (bindM p f) (bindM p' f') := loc_bind LR.self hp hf
theorem loc_pure {α : Type} {R : α → α → Prop} {x x' : α} (h : R x x') : Loc o n R (pureM x) (pureM x') := fun i y j e => by
 have e' : Except.ok (ε := Nat) (x, i) = .ok (y, j) := e
 simp only [Except.ok.injEq, Prod.mk.injEq] at e'
 obtain ⟨rfl, rfl⟩ := e'
 exact ⟨Nat.le_refl _, fun _ => ⟨x', rfl, h⟩⟩
theorem loc_fail {α : Type} {R : α → α → Prop} : Loc o n R (failM : PM α) failM := fun i x j e => by cases e
theorem locE_fail {α : Type} {R : α → α → Prop} : LocE o n R (failM : PM α) failM := fun i x j e => by cases e
theorem loc_nd {k : Int} {s : ByteArray} {a a' : Int} {l l' : List Tree} (hl : LR PA l l') : Loc o n (TR PA) (ndM k s a l) (ndM k s a' l') := loc_pure (.of trivial hl)
theorem loc_at {α : Type} {R : α → α → Prop} {p p' : PM α} (f : Nat → α) (f' : Nat → α) (hp : ∀ i, p i = .ok (f i, i)) (hp' : ∀ i, p' i = .ok (f' i, i)) (h : ∀ i, i < n → R (f i) (f' (o + i))) : Loc o n R p p' := fun i x j e => by
 rw [hp] at e
 simp only [Except.ok.injEq, Prod.mk.injEq] at e
 obtain ⟨rfl, rfl⟩ := e
 exact ⟨Nat.le_refl _, fun hj => ⟨_, hp' _, h i hj⟩⟩
theorem loc_here (S : Seg r r' o n) : Loc o n PA (hereM r) (hereM r') := loc_at _ _ (fun _ => rfl) (fun _ => rfl) fun _ _ => trivial
theorem loc_bh (S : Seg r r' o n) {β : Type} {Q : β → β → Prop} {f f' : Int → PM β} (hf : ∀ a a', Loc o n Q (f a) (f' a')) : Loc o n Q (bindM (hereM r) f) (bindM (hereM r') f') := loc_bind (fun _ => trivial) (loc_here S) fun x x' _ => hf x x'
theorem loc_bhE (S : Seg r r' o n) {β : Type} {Q : β → β → Prop} {f f' : Int → PM β} (hf : ∀ a a', LocE o n Q (f a) (f' a')) : LocE o n Q (bindM (hereM r) f) (bindM (hereM r') f') := loc_bindE (fun _ => trivial) (loc_here S) fun x x' _ => hf x x'
theorem loc_is (S : Seg r r' o n) (sg : ByteArray) : Loc o n Eq (isM r sg) (isM r' sg) := loc_at _ _ (fun _ => rfl) (fun _ => rfl) fun i hi => (S.mark hi sg).symm
theorem locE_need (S : Seg r r' o n) (sg : ByteArray) : LocE o n Eq (needM r sg) (needM r' sg) := fun i x j e => by
 unfold needM at e ⊢
 split at e
 ·rename_i hm
  simp only [Except.ok.injEq, Prod.mk.injEq] at e
  obtain ⟨-, rfl⟩ := e
  exact ⟨by omega, fun hj => ⟨(), by rw [if_pos (by rw [S.mark (by omega)]; exact hm)]; rfl, rfl⟩⟩
 ·cases e
theorem loc_need (S : Seg r r' o n) (sg : ByteArray) : Loc o n Eq (needM r sg) (needM r' sg) := (locE_need S sg).loc
theorem loc_took (S : Seg r r' o n) (sg : ByteArray) : Loc o n Eq (tookM r sg) (tookM r' sg) := fun i x j e => by
 unfold tookM at e ⊢
 split at e
 ·rename_i hm
  simp only [Except.ok.injEq, Prod.mk.injEq] at e
  obtain ⟨rfl, rfl⟩ := e
  exact ⟨by omega, fun hj => ⟨true, by rw [if_pos (by rw [S.mark (by omega)]; exact hm)]; rfl, rfl⟩⟩
 ·rename_i hm
  simp only [Except.ok.injEq, Prod.mk.injEq] at e
  obtain ⟨rfl, rfl⟩ := e
  exact ⟨Nat.le_refl _, fun hj => ⟨false, by rw [if_neg (by rw [S.mark hj]; exact hm)], rfl⟩⟩
theorem loc_name (S : Seg r r' o n) : Loc o n Eq (nameM r) (nameM r') := fun i x j e => by
 unfold nameM at e ⊢
 split at e
 ·rename_i hm
  simp only [Except.ok.injEq, Prod.mk.injEq] at e
  obtain ⟨rfl, rfl⟩ := e
  exact ⟨by omega, fun hj => ⟨_, by rw [if_pos (by rw [S.kind i (by omega)]; exact hm), S.text i (by omega)]; rfl, rfl⟩⟩
 ·cases e
theorem loc_sign (S : Seg r r' o n) (V : List ByteArray) : Loc o n Eq (signM r V) (signM r' V) := fun i x j e => by
 unfold signM at e ⊢
 split at e
 ·rename_i hm
  simp only [Except.ok.injEq, Prod.mk.injEq] at e
  obtain ⟨rfl, rfl⟩ := e
  exact ⟨by omega, fun hj => ⟨_, by rw [S.text i (by omega), if_pos hm]; rfl, rfl⟩⟩
 ·rename_i hm
  simp only [Except.ok.injEq, Prod.mk.injEq] at e
  obtain ⟨rfl, rfl⟩ := e
  exact ⟨Nat.le_refl _, fun hj => ⟨_, by rw [S.text i hj, if_neg hm], rfl⟩⟩
theorem locE_take (S : Seg r r' o n) : LocE o n (TkR PA) (takeM r) (takeM r') := fun i x j e => by
 have e' : Except.ok (ε := Nat) (r.L.getD i tok0, i + 1) = .ok (x, j) := e
 simp only [Except.ok.injEq, Prod.mk.injEq] at e'
 obtain ⟨rfl, rfl⟩ := e'
 exact ⟨by omega, fun hj => ⟨r'.L.getD (o + i) tok0, rfl, S.kind i (by omega), S.text i (by omega), trivial⟩⟩
theorem loc_if {α : Type} {R : α → α → Prop} {c : Prop} [Decidable c] {p q p' q' : PM α} (hp : Loc o n R p p') (hq : Loc o n R q q') : Loc o n R (if c then p else q) (if c then p' else q') := by split <;> assumption
theorem locE_if {α : Type} {R : α → α → Prop} {c : Prop} [Decidable c] {p q p' q' : PM α} (hp : LocE o n R p p') (hq : LocE o n R q q') : LocE o n R (if c then p else q) (if c then p' else q') := by split <;> assumption
theorem loc_list (S : Seg r r' o n) {sg : ByteArray} {part part' : PM Tree} (hp : Loc o n (TR PA) part part') : ∀ f f', f ≤ f' → Loc o n (LR PA) (listP r sg part f) (listP r' sg part' f')
 | 0, f', _ => fun i x j e => by cases e
 | f + 1, 0, h => absurd h (by omega)
 | f + 1, f' + 1, h => by
  intro i x j e
  have e' : (match part i with | .error k => .error k | .ok (t, j) => if isMark r j sg = true then (match listP r sg part f (j + 1) with | .error k => .error k | .ok (ts, m) => .ok (t :: ts, m)) else .ok ([t], j) : Except Nat (List Tree × Nat)) = .ok (x, j) := e
  show _ ∧ (_ → ∃ x', (match part' (o + i) with | .error k => .error k | .ok (t, j) => if isMark r' j sg = true then (match listP r' sg part' f' (j + 1) with | .error k => .error k | .ok (ts, m) => .ok (t :: ts, m)) else .ok ([t], j) : Except Nat (List Tree × Nat)) = .ok (x', o + j) ∧ _)
  clear e
  cases hpi : part i with
  | error k => rw [hpi] at e'; cases e'
  | ok z =>
   obtain ⟨t, m⟩ := z
   rw [hpi] at e'
   obtain ⟨a1, a2⟩ := hp i t m hpi
   by_cases hm : isMark r m sg = true
   ·simp only [if_pos hm] at e'
    cases hl : listP r sg part f (m + 1) with
    | error k => rw [hl] at e'; cases e'
    | ok y =>
     obtain ⟨us, j2⟩ := y
     rw [hl] at e'
     simp only [Except.ok.injEq, Prod.mk.injEq] at e'
     obtain ⟨rfl, rfl⟩ := e'
     obtain ⟨b1, b2⟩ := loc_list S hp f f' (by omega) (m + 1) us j2 hl
     refine ⟨by omega, fun hj => ?_⟩
     obtain ⟨t', e1, r1⟩ := a2 (by omega)
     obtain ⟨us', e2, r2⟩ := b2 hj
     refine ⟨t' :: us', ?_, .cons r1 r2⟩
     rw [e1]
     simp only [if_pos (show isMark r' (o + m) sg = true by rw [S.mark (by omega)]; exact hm)]
     rw [show o + m + 1 = o + (m + 1) from rfl, e2]
   ·simp only [if_neg hm, Except.ok.injEq, Prod.mk.injEq] at e'
    obtain ⟨rfl, rfl⟩ := e'
    refine ⟨a1, fun hj => ?_⟩
    obtain ⟨t', e1, r1⟩ := a2 hj
    refine ⟨[t'], ?_, .one r1⟩
    rw [e1]
    simp only [if_neg (show ¬ isMark r' (o + m) sg = true by rw [S.mark hj]; exact hm)]
end Go.Proofs.YtheigpiffdabnaaGreat
