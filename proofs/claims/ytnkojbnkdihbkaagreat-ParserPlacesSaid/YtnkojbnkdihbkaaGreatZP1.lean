/-
  PLAIN FACTS: the tokens of a text, with blanks and comments between them, are the same tokens at other places.
-/
import Derived.Test.YtnkojbnkdihbkaaGreatZA2
import Derived.Test.YtnkojbnkdihbkaaGreatZA13
import Derived.Deep.QuietTactic
import Derived.BigQuiet
import Derived.Below
import Derived.WalkSmall
import Derived.KernelRfl
import Derived.Test.YtnkojbnkdihbkaaGreatZL4
namespace Go.Proofs.YtnkojbnkdihbkaaGreat
namespace Lx
set_option linter.unusedVariables false
set_option linter.unusedSimpArgs false

theorem tok_run2 {l : Bs} (h : 0 < runLen l) : tokLen l = runLen l ∧ tokKind l = kindRun (l.take (runLen l)) := by unfold tokLen tokKind; rw [if_pos h, if_pos h]; exact ⟨rfl, rfl⟩
theorem tok_mark2 {l : Bs} (h : runLen l = 0) (h2 : 0 < markLen l) : tokLen l = markLen l ∧ tokKind l = 4 := by simp [tokLen, tokKind, h, h2]
theorem tok_bad2 {l : Bs} (h : runLen l = 0) (h2 : markLen l = 0) : tokLen l = 1 ∧ tokKind l = 5 := by simp [tokLen, tokKind, h, h2]
def kt2 (t : Tok) : Int × ByteArray := (t.kind, t.text)
def isGapB (x : UInt8) : Prop := x = 10 ∨ x = 32 ∨ x = 9
theorem kindRun_ne2 (l : Bs) : kindRun l ≠ 0 := by unfold kindRun; split; · omega
                                                   · split; · omega
                                                     · split <;> omega
theorem tokKind_ne2 (l : Bs) : tokKind l ≠ 0 := by
  unfold tokKind
  split
  · exact kindRun_ne2 _
  · split <;> omega
theorem takeWhile_cut2 {p : UInt8 → Bool} {l : Bs} {r : Bs} {c : UInt8} (hc : p c = false) : ((l.take (l.takeWhile p).length) ++ c :: r).takeWhile p = l.takeWhile p := by
  induction l with
  | nil => simp [hc]
  | cons a l ih =>
    by_cases h : p a = true
    · rw [List.takeWhile_cons, if_pos h]
      simp only [List.length_cons, List.take_succ_cons, List.cons_append]
      rw [List.takeWhile_cons, if_pos h, ih]
    · rw [List.takeWhile_cons, if_neg h]
      simp [hc]
theorem markLen_c2 (c : UInt8) (l : Bs) : markLen (c :: l) = if twoM ((c :: l).take 2) then 2 else if markI (c.toNat : Int) then 1 else 0 := rfl
theorem two_gap (c x : UInt8) (hx : isGapB x) : twoM [c, x] = false := by
  unfold twoM
  rw [decide_eq_false]
  rcases hx with rfl | rfl | rfl <;> simp
theorem run_gap (x : UInt8) (hx : isGapB x) : runB x = false := by rcases hx with rfl | rfl | rfl <;> rfl

theorem stable2 (c x : UInt8) (hx : isGapB x) (l r : Bs) : tokLen ((c :: l).take (tokLen (c :: l)) ++ x :: r) = tokLen (c :: l) ∧ tokKind ((c :: l).take (tokLen (c :: l)) ++ x :: r) = tokKind (c :: l) := by
  have h10 : runB x = false := run_gap x hx
  by_cases hr : 0 < runLen (c :: l)
  · obtain ⟨e1, e2⟩ := tok_run2 hr
    rw [e1, e2]
    have e3 : runLen ((c :: l).take (runLen (c :: l)) ++ x :: r) = runLen (c :: l) := by
      unfold runLen
      rw [takeWhile_cut2 h10]
    obtain ⟨f1, f2⟩ := tok_run2 (l := (c :: l).take (runLen (c :: l)) ++ x :: r) (by rw [e3]; exact hr)
    rw [f1, f2, e3]
    refine ⟨rfl, ?_⟩
    congr 1
    have hle := runLen_le (c :: l)
    rw [List.take_append_of_le_length (by rw [List.length_take]; omega), List.take_take, Nat.min_self]
  · have hr0 : runLen (c :: l) = 0 := by omega
    have hc : runB c = false := by
      cases h : runB c
      · rfl
      · unfold runLen at hr0; rw [List.takeWhile_cons, if_pos h] at hr0; simp at hr0
    have run0 : ∀ y, runLen (c :: y) = 0 := fun y => by unfold runLen; rw [List.takeWhile_cons, hc]; simp
    by_cases hm : 0 < markLen (c :: l)
    · obtain ⟨e1, e2⟩ := tok_mark2 hr0 hm
      rw [e1, e2]
      by_cases h2 : twoM ((c :: l).take 2) = true
      · have em : markLen (c :: l) = 2 := by rw [markLen_c2, if_pos h2]
        rw [em]
        cases l with
        | nil => simp [twoM] at h2
        | cons d l =>
          simp only [List.take_succ_cons, List.take_zero, List.cons_append, List.nil_append] at h2 ⊢
          have fm : markLen (c :: d :: x :: r) = 2 := by rw [markLen_c2, show List.take 2 (c :: d :: x :: r) = [c, d] from rfl, h2]; rfl
          obtain ⟨f1, f2⟩ := tok_mark2 (run0 (d :: x :: r)) (by rw [fm]; omega)
          rw [f1, f2, fm]
          exact ⟨rfl, rfl⟩
      · have h2' : twoM ((c :: l).take 2) = false := by simpa using h2
        have hk : markI (c.toNat : Int) = true := by
          cases h : markI (c.toNat : Int)
          · rw [markLen_c2, h2', h] at hm; simp at hm
          · rfl
        have em : markLen (c :: l) = 1 := by rw [markLen_c2, h2', hk]; rfl
        rw [em]
        simp only [List.take_succ_cons, List.take_zero, List.cons_append, List.nil_append]
        have fm : markLen (c :: x :: r) = 1 := by rw [markLen_c2, show List.take 2 (c :: x :: r) = [c, x] from rfl, two_gap c x hx, hk]; rfl
        obtain ⟨f1, f2⟩ := tok_mark2 (run0 (x :: r)) (by rw [fm]; omega)
        rw [f1, f2, fm]
        exact ⟨rfl, rfl⟩
    · have hm0 : markLen (c :: l) = 0 := by omega
      obtain ⟨e1, e2⟩ := tok_bad2 hr0 hm0
      rw [e1, e2]
      have hk : markI (c.toNat : Int) = false := by
        cases h : markI (c.toNat : Int)
        · rfl
        · rw [markLen_c2, h] at hm0; split at hm0 <;> simp at hm0
      simp only [List.take_succ_cons, List.take_zero, List.cons_append, List.nil_append]
      have fm : markLen (c :: x :: r) = 0 := by rw [markLen_c2, show List.take 2 (c :: x :: r) = [c, x] from rfl, two_gap c x hx, hk]; rfl
      obtain ⟨f1, f2⟩ := tok_bad2 (run0 (x :: r)) fm
      rw [f1, f2]
      exact ⟨rfl, rfl⟩

/-- what may stand between tokens -/
def gapsL : List Bs := [[32], [10], [32, 47, 47, 32, 99, 10], [9]]
theorem gap_head {g : Bs} (h : g ∈ gapsL) : ∃ x y, g = x :: y ∧ isGapB x := by
  simp only [gapsL, List.mem_cons, List.not_mem_nil, or_false] at h
  rcases h with rfl | rfl | rfl | rfl
  · exact ⟨32, [], rfl, .inr (.inl rfl)⟩
  · exact ⟨10, [], rfl, .inl rfl⟩
  · exact ⟨32, _, rfl, .inr (.inl rfl)⟩
  · exact ⟨9, [], rfl, .inr (.inr rfl)⟩
theorem gap_scan {g : Bs} (h : g ∈ gapsL) {X : Bs} {b : Nat} {U : List Tok} (hU : Scan X (b + g.length) U) : Scan (g ++ X) b U := by
  simp only [gapsL, List.mem_cons, List.not_mem_nil, or_false] at h
  rcases h with rfl | rfl | rfl | rfl
  · exact .blank _ _ _ _ rfl hU
  · exact .blank _ _ _ _ rfl hU
  · refine .blank _ _ _ _ rfl (.comm _ _ _ _ rfl rfl ?_)
    have hl : lineLen (47 :: ([47, 32, 99, 10] ++ X)) = 4 := by
      unfold lineLen
      simp [List.takeWhile_cons, notLf]
    have hl' : lineLen (47 :: (List.append [47, 32, 99, 10] X)) = 4 := hl
    rw [hl']
    exact .blank 10 X _ _ rfl hU
  · exact .blank _ _ _ _ rfl hU

/-- the tokens from the k-th on, each behind its gap -/
def spread (g : Nat → Bs) : Nat → List Tok → Bs
  | _, [] => []
  | k, t :: T => g k ++ (t.text.data.toList ++ spread g (k + 1) T)
def placesF (g : Nat → Bs) : Nat → Nat → List Tok → List Int
  | _, _, [] => []
  | k, b, t :: T => ((b + (g k).length : Nat) : Int) :: placesF g (k + 1) (b + (g k).length + t.text.size) T
theorem Scan.some {l : Bs} {a : Nat} {T : List Tok} (h : Scan l a T) : ∃ t U, T = t :: U := by
  induction h with
  | fin a => exact ⟨_, _, rfl⟩
  | blank c l a T hb h ih => exact ih
  | comm c l a T hb hc h ih => exact ih
  | tok c l a T hb hc h ih => exact ⟨_, _, rfl⟩

theorem Scan.spread {l : Bs} {a : Nat} {T : List Tok} (h : Scan l a T) {g : Nat → Bs} (hg : ∀ i, g i ∈ gapsL) : ∀ k b : Nat, ∃ U, Scan (spread g k T) b U ∧ U.map kt2 = T.map kt2 ∧ U.map Tok.at_ = placesF g k b T := by
  induction h with
  | fin a =>
    intro k b
    refine ⟨[⟨0, ByteArray.empty, ((b + (g k).length : Nat) : Int)⟩], ?_, rfl, rfl⟩
    exact gap_scan (hg k) (X := []) (.fin _)
  | blank c l a T hb h ih => exact ih
  | comm c l a T hb hc h ih => exact ih
  | tok c l a T hb hc h ih =>
    intro k b
    obtain ⟨t0, T0, hT0⟩ := h.some
    obtain ⟨x, y, hgx, hx⟩ := gap_head (hg (k + 1))
    have hsp : ∃ R, Lx.spread g (k + 1) T = x :: R := by rw [hT0]; exact ⟨_, by rw [Lx.spread, hgx]; rfl⟩
    obtain ⟨R, hR⟩ := hsp
    obtain ⟨s1, s2⟩ := stable2 c x hx l R
    have hp := tokLen_pos (c :: l)
    have hle := tokLen_le c l
    have hsz : (tokOf (c :: l) a).text.size = tokLen (c :: l) := by
      show (mk _).size = _
      rw [mk_size, List.length_take]
      omega
    obtain ⟨U, hU, hm, hpl⟩ := ih (k + 1) (b + (g k).length + tokLen (c :: l))
    have e : Lx.spread g k (tokOf (c :: l) a :: T) = g k ++ ((c :: l).take (tokLen (c :: l)) ++ x :: R) := by
      rw [Lx.spread, hR]
      simp [tokOf]
    obtain ⟨n, hn⟩ : ∃ n, tokLen (c :: l) = n + 1 := ⟨tokLen (c :: l) - 1, by omega⟩
    rw [hn] at hU hpl hsz
    rw [hn, List.take_succ_cons] at e s1 s2
    rw [List.cons_append] at e s1 s2
    have hlt : (l.take n).length = n := by rw [List.length_take]; simp only [List.length_cons] at hle; omega
    have hdrop : (c :: (l.take n ++ x :: R)).drop (n + 1) = x :: R := by
      rw [List.drop_succ_cons, List.drop_append_of_le_length (by omega), List.drop_of_length_le (by omega)]
      rfl
    have htake : (c :: (l.take n ++ x :: R)).take (n + 1) = c :: l.take n := by
      rw [List.take_succ_cons, List.take_append_of_le_length (by omega), List.take_of_length_le (by omega)]
    have hcm : comment (c :: (l.take n ++ x :: R)) = false := by
      cases n with
      | zero =>
        show decide ((c.toNat : Int) = 47 ∧ (x.toNat : Int) = 47) = false
        rcases hx with rfl | rfl | rfl <;> simp
      | succ n =>
        cases l with
        | nil => simp at hlt
        | cons d l => exact hc
    refine ⟨tokOf (c :: (l.take n ++ x :: R)) (b + (g k).length) :: U, ?_, ?_, ?_⟩
    · rw [e]
      refine gap_scan (hg k) (.tok _ _ _ _ hb hcm ?_)
      rw [s1, hdrop, ← hR]
      exact hU
    · rw [List.map_cons, List.map_cons, hm]
      congr 1
      unfold kt2 tokOf
      dsimp only
      rw [s1, s2, htake, hn, List.take_succ_cons]
    · rw [List.map_cons, hpl, placesF, hsz]
      rfl

/-- tokens ascend -/
theorem Scan.up {l : Bs} {a : Nat} {T : List Tok} (h : Scan l a T) : (∀ t ∈ T, (a : Int) ≤ t.at_) ∧ T.Pairwise (fun x y => x.at_ < y.at_) := by
  induction h with
  | fin a => exact ⟨fun t ht => by simp only [List.mem_cons, List.not_mem_nil, or_false] at ht; subst ht; exact Int.le_refl _, by simp⟩
  | blank c l a T hb h ih => exact ⟨fun t ht => by have := ih.1 t ht; omega, ih.2⟩
  | comm c l a T hb hc h ih => exact ⟨fun t ht => by have := ih.1 t ht; omega, ih.2⟩
  | tok c l a T hb hc h ih =>
    have hp := tokLen_pos (c :: l)
    refine ⟨fun t ht => ?_, ?_⟩
    · rcases List.mem_cons.1 ht with rfl | ht
      · exact Int.le_refl _
      · have := ih.1 t ht; omega
    · rw [List.pairwise_cons]
      refine ⟨fun t ht => ?_, ih.2⟩
      have := ih.1 t ht
      show ((a : Nat) : Int) < _
      omega
end Lx
end Go.Proofs.YtnkojbnkdihbkaaGreat

/-
  PLAIN: two lists of tokens of the same kinds and texts are read as trees that are alike but for their places.
-/
namespace Go.Proofs.YtnkojbnkdihbkaaGreat
open Go Go.RowKit
set_option linter.unusedVariables false
set_option linter.unusedSimpArgs false

/-- token by token alike, and the places are related -/
structure Sim (P : Int → Int → Prop) (r r' : Rdr) : Prop where
  len : r'.L.length = r.L.length
  kind : ∀ i, (r'.L.getD i tok0).kind = (r.L.getD i tok0).kind
  text : ∀ i, (r'.L.getD i tok0).text = (r.L.getD i tok0).text
  at_ : ∀ i, i < r.L.length → P (r.L.getD i tok0).at_ (r'.L.getD i tok0).at_
  ends : EndAt r
  ints : IntAt r
/-- trees that are alike but for their places -/
inductive TR (P : Int → Int → Prop) : Tree → Tree → Prop
  | mk {k : Int} {s : ByteArray} {a a' : Int} {l l' : List Tree} : P a a' → l.length = l'.length → (∀ i (h : i < l.length) (h' : i < l'.length), TR P l[i] l'[i]) → TR P (.mk k s a l) (.mk k s a' l')
def LR (P : Int → Int → Prop) (l l' : List Tree) : Prop := l.length = l'.length ∧ ∀ i (h : i < l.length) (h' : i < l'.length), TR P l[i] l'[i]
theorem TR.of {P : Int → Int → Prop} {k : Int} {s : ByteArray} {a a' : Int} {l l' : List Tree} (h : P a a') (hl : LR P l l') : TR P (.mk k s a l) (.mk k s a' l') := .mk h hl.1 hl.2
theorem TR.at_ {P : Int → Int → Prop} {t t' : Tree} (h : TR P t t') : P t.at_ t'.at_ := by cases h with | mk h1 h2 h3 => exact h1
theorem TR.kind {P : Int → Int → Prop} {t t' : Tree} (h : TR P t t') : t'.kind = t.kind := by cases h with | mk h1 h2 h3 => rfl
theorem LR.nil {P : Int → Int → Prop} : LR P [] [] := ⟨rfl, fun i h _ => absurd h (Nat.not_lt_zero i)⟩
theorem LR.cons {P : Int → Int → Prop} {t t' : Tree} {l l' : List Tree} (h : TR P t t') (hl : LR P l l') : LR P (t :: l) (t' :: l') := by
  refine ⟨by simp [hl.1], fun i h1 h2 => ?_⟩
  cases i with
  | zero => exact h
  | succ i => exact hl.2 i (by simpa using h1) (by simpa using h2)
theorem LR.append {P : Int → Int → Prop} {l l' m m' : List Tree} (hl : LR P l l') (hm : LR P m m') : LR P (l ++ m) (l' ++ m') := by
  refine ⟨by simp [hl.1, hm.1], fun i h1 h2 => ?_⟩
  by_cases h : i < l.length
  · rw [List.getElem_append_left h, List.getElem_append_left (by rw [← hl.1]; exact h)]
    exact hl.2 i h _
  · rw [List.getElem_append_right (by omega), List.getElem_append_right (by have := hl.1; omega)]
    have e : i - l.length = i - l'.length := by rw [hl.1]
    simp only [e]
    exact hm.2 _ _ _
theorem LR.one {P : Int → Int → Prop} {t t' : Tree} (h : TR P t t') : LR P [t] [t'] := .cons h .nil
theorem LR.two {P : Int → Int → Prop} {t t' u u' : Tree} (h : TR P t t') (h2 : TR P u u') : LR P [t, u] [t', u'] := .cons h (.one h2)
theorem LR.last {P : Int → Int → Prop} {l l' : List Tree} (h : LR P l l') : noValue l' = noValue l := by
  unfold noValue
  rcases Nat.eq_zero_or_pos l.length with h0 | h0
  · have e1 := List.eq_nil_of_length_eq_zero h0
    have e2 := List.eq_nil_of_length_eq_zero (h.1 ▸ h0 : l'.length = 0)
    rw [e1, e2]
  · have h1 : l.length - 1 < l.length := by omega
    have h2 : l'.length - 1 < l'.length := by have := h.1; omega
    have e1 : l.getLast? = some l[l.length - 1] := by rw [List.getLast?_eq_getElem?]; exact List.getElem?_eq_getElem h1
    have e2 : l'.getLast? = some l'[l'.length - 1] := by rw [List.getLast?_eq_getElem?]; exact List.getElem?_eq_getElem h2
    rw [e1, e2]
    have e : l'.length - 1 = l.length - 1 := by rw [h.1]
    have := h.2 (l.length - 1) h1 (by omega)
    show isStmtK _ = isStmtK _
    rw [← this.kind]
    simp only [e]

-- what both readers end in
def RE {α : Type} (r : Rdr) (R : α → α → Prop) (i : Nat) (e e' : Except Nat (α × Nat)) : Prop :=
  (∃ k, e = .error k ∧ e' = .error k ∧ i ≤ k ∧ k < r.L.length) ∨ ∃ x x' j, e = .ok (x, j) ∧ e' = .ok (x', j) ∧ R x x' ∧ i ≤ j ∧ j < r.L.length
theorem RE.ok {α : Type} {r : Rdr} {R : α → α → Prop} {i j : Nat} {x x' : α} (h : R x x') (hi : i ≤ j) (hj : j < r.L.length) : RE r R i (.ok (x, j)) (.ok (x', j)) := .inr ⟨x, x', j, rfl, rfl, h, hi, hj⟩
theorem RE.err {α : Type} {r : Rdr} {R : α → α → Prop} {i k : Nat} (hi : i ≤ k) (hk : k < r.L.length) : RE r R i (.error k) (.error k) := .inl ⟨k, rfl, rfl, hi, hk⟩
theorem RE.mono {α : Type} {r : Rdr} {R : α → α → Prop} {i i' : Nat} {e e' : Except Nat (α × Nat)} (h : RE r R i' e e') (hi : i ≤ i') : RE r R i e e' := by
  rcases h with ⟨k, h1, h2, h3, h4⟩ | ⟨x, x', j, h1, h2, h3, h4, h5⟩
  · exact .inl ⟨k, h1, h2, by omega, h4⟩
  · exact .inr ⟨x, x', j, h1, h2, h3, by omega, h5⟩
/-- both readers, from any token -/
def Par {α : Type} (r : Rdr) (R : α → α → Prop) (p p' : PM α) : Prop := ∀ i, i < r.L.length → RE r R i (p i) (p' i)
theorem par_bind {α β : Type} {r : Rdr} {R : α → α → Prop} {Q : β → β → Prop} {p p' : PM α} {f f' : α → PM β} (hp : Par r R p p') (hf : ∀ x x', R x x' → Par r Q (f x) (f' x')) : Par r Q (bindM p f) (bindM p' f') := fun i hi => by
  unfold bindM
  rcases hp i hi with ⟨k, h1, h2, h3, h4⟩ | ⟨x, x', j, h1, h2, h3, h4, h5⟩
  · rw [h1, h2]; exact .err h3 h4
  · rw [h1, h2]; exact (hf x x' h3 j h5).mono h4
/-- what was read is one thing in both -/
theorem par_beq {α β : Type} {r : Rdr} {Q : β → β → Prop} {p p' : PM α} {f f' : α → PM β} (hp : Par r Eq p p') (hf : ∀ x, Par r Q (f x) (f' x)) : Par r Q (bindM p f) (bindM p' f') := par_bind hp fun x x' e => by subst e; exact hf x
theorem par_pure {α : Type} {r : Rdr} {R : α → α → Prop} {x x' : α} (h : R x x') : Par r R (pureM x) (pureM x') := fun i hi => .ok h (Nat.le_refl _) hi
theorem par_fail {α : Type} {r : Rdr} {R : α → α → Prop} : Par r R (failM : PM α) failM := fun i hi => .err (Nat.le_refl _) hi
variable {P : Int → Int → Prop} {r r' : Rdr}
theorem par_nd {k : Int} {s : ByteArray} {a a' : Int} {l l' : List Tree} (h : P a a') (hl : LR P l l') : Par r (TR P) (ndM k s a l) (ndM k s a' l') := par_pure (.of h hl)
theorem par_if {α : Type} {R : α → α → Prop} {c : Prop} [Decidable c] {p q p' q' : PM α} (hp : Par r R p p') (hq : Par r R q q') : Par r R (if c then p else q) (if c then p' else q') := by split <;> assumption
theorem Sim.mark (S : Sim P r r') (i : Nat) (sg : ByteArray) : isMark r' i sg = isMark r i sg := by unfold isMark; rw [S.text i]
theorem par_here (S : Sim P r r') : Par r P (hereM r) (hereM r') := fun i hi => .ok (S.at_ i hi) (Nat.le_refl _) hi
def TkR (P : Int → Int → Prop) (t t' : Lx.Tok) : Prop := t'.kind = t.kind ∧ t'.text = t.text ∧ P t.at_ t'.at_
theorem par_tok (S : Sim P r r') : Par r (TkR P) (tokM r) (tokM r') := fun i hi => .ok ⟨S.kind i, S.text i, S.at_ i hi⟩ (Nat.le_refl _) hi
theorem par_is (S : Sim P r r') (sg : ByteArray) : Par r Eq (isM r sg) (isM r' sg) := fun i hi => .ok (S.mark i sg).symm (Nat.le_refl _) hi
theorem par_peek (S : Sim P r r') : Par r Eq (peekM r) (peekM r') := fun i hi => .ok (S.text (i + 1)).symm (Nat.le_refl _) hi
theorem par_need (S : Sim P r r') (sg : ByteArray) (hs : sg.size ≠ 0 := by decide) : Par r Eq (needM r sg) (needM r' sg) := fun i hi => by
  unfold needM
  rw [S.mark i sg]
  by_cases hm : isMark r i sg = true
  · (repeat rw [if_pos hm]); exact .ok rfl (by omega) (S.ends.mark hi hm hs)
  · (repeat rw [if_neg hm]); exact .err (Nat.le_refl _) hi
theorem par_took (S : Sim P r r') (sg : ByteArray) (hs : sg.size ≠ 0 := by decide) : Par r Eq (tookM r sg) (tookM r' sg) := fun i hi => by
  unfold tookM
  rw [S.mark i sg]
  by_cases hm : isMark r i sg = true
  · (repeat rw [if_pos hm]); exact .ok rfl (by omega) (S.ends.mark hi hm hs)
  · (repeat rw [if_neg hm]); exact .ok rfl (Nat.le_refl _) hi
theorem par_name (S : Sim P r r') : Par r Eq (nameM r) (nameM r') := fun i hi => by
  unfold nameM
  rw [S.kind i, S.text i]
  by_cases hm : (r.L.getD i tok0).kind = 1
  · (repeat rw [if_pos hm]); exact .ok rfl (by omega) (S.ends i hi (.inl hm))
  · (repeat rw [if_neg hm]); exact .err (Nat.le_refl _) hi
theorem par_sign (S : Sim P r r') (V : List ByteArray) (hV : ∀ v ∈ V, v.size ≠ 0 := by decide) : Par r Eq (signM r V) (signM r' V) := fun i hi => by
  unfold signM
  rw [S.text i]
  by_cases hm : hit (r.L.getD i tok0).text V = true
  · (repeat rw [if_pos hm]); exact .ok rfl (by omega) (S.ends i hi (.inr (hit_size hm hV)))
  · (repeat rw [if_neg hm]); exact .ok rfl (Nat.le_refl _) hi
theorem par_list (S : Sim P r r') {sg : ByteArray} {part part' : PM Tree} (hp : Par r (TR P) part part') (hs : sg.size ≠ 0) : ∀ f, Par r (LR P) (listP r sg part f) (listP r' sg part' f)
  | 0 => par_fail
  | f + 1 => fun i hi => by
    unfold listP
    rcases hp i hi with ⟨k, h1, h2, h3, h4⟩ | ⟨t, t', j, h1, h2, h3, h4, h5⟩
    · rw [h1, h2]; exact .err h3 h4
    · rw [h1, h2]
      show RE r (LR P) i (if isMark r j sg = true then _ else _) (if isMark r' j sg = true then _ else _)
      rw [S.mark j sg]
      by_cases hm : isMark r j sg = true
      · (repeat rw [if_pos hm])
        have hj := S.ends.mark h5 hm hs
        rcases par_list S hp hs f (j + 1) hj with ⟨k, g1, g2, g3, g4⟩ | ⟨u, u', m, g1, g2, g3, g4, g5⟩
        · rw [g1, g2]; exact .err (by omega) g4
        · rw [g1, g2]; exact .ok (.cons h3 g3) (by omega) g5
      · (repeat rw [if_neg hm]); exact .ok (.one h3) h4 h5
theorem par_upTo (S : Sim P r r') {en : ByteArray} {part part' : PM Tree} (hp : Par r (TR P) part part') (hs : en.size ≠ 0 := by decide) : Par r (LR P) (upToP r en part) (upToP r' en part') := fun i hi => by
  unfold upToP
  rw [S.mark i en, S.len]
  by_cases hm : isMark r i en = true
  · (repeat rw [if_pos hm]); exact .ok .nil (by omega) (S.ends.mark hi hm hs)
  · (repeat rw [if_neg hm])
    rcases par_list S hp (by decide : (⟨#[44]⟩ : ByteArray).size ≠ 0) (r.L.length + 1) i hi with ⟨k, g1, g2, g3, g4⟩ | ⟨u, u', m, g1, g2, g3, g4, g5⟩
    · rw [g1, g2]; exact .err g3 g4
    · rw [g1, g2]
      show RE r (LR P) i (if isMark r m en = true then _ else _) (if isMark r' m en = true then _ else _)
      rw [S.mark m en]
      by_cases hm : isMark r m en = true
      · (repeat rw [if_pos hm]); exact .ok g3 (by omega) (S.ends.mark g5 hm hs)
      · (repeat rw [if_neg hm]); exact .err g4 g5
theorem par_take_at (S : Sim P r r') {i : Nat} (hi : i + 1 < r.L.length) {β : Type} {Q : β → β → Prop} {f f' : Lx.Tok → PM β} (hf : ∀ x x', TkR P x x' → Par r Q (f x) (f' x')) : RE r Q i (bindM (takeM r) f i) (bindM (takeM r') f' i) :=
  RE.mono (i' := i + 1) (hf _ _ ⟨S.kind i, S.text i, S.at_ i (by omega)⟩ (i + 1) hi) (by omega)

theorem par_chain (S : Sim P r r') {part part' : PM Tree} {V : List ByteArray} (hV : ∀ v ∈ V, v.size ≠ 0) (hp : Par r (TR P) part part') : ∀ f t t', TR P t t' → Par r (TR P) (chainM r part V f t) (chainM r' part' V f t')
  | 0, t, t', h => par_fail
  | f + 1, t, t', h => par_beq (par_sign S V hV) fun sg => by
    cases sg.toList.isEmpty
    · exact par_bind hp fun u u' hu => par_chain S hV hp f _ _ (.of h.at_ (.two h hu))
    · exact par_pure h
theorem par_chainP (S : Sim P r r') {part part' : PM Tree} {V : List ByteArray} (hp : Par r (TR P) part part') (hV : ∀ v ∈ V, v.size ≠ 0 := by decide) : Par r (TR P) (chainP r part V) (chainP r' part' V) := by
  unfold chainP
  rw [S.len]
  exact par_bind hp fun t t' h => par_chain S hV hp _ t t' h
theorem par_arguments (S : Sim P r r') {E E' : PM Tree} (hE : Par r (TR P) E E') : Par r (LR P) (argumentsM r E) (argumentsM r' E') := par_beq (par_need S _) fun _ => par_upTo S hE
theorem par_named (S : Sim P r r') {E E' : PM Tree} (hE : Par r (TR P) E E') : Par r (TR P) (namedM r E) (namedM r' E') := par_bind (par_here S) fun a a' ha => par_beq (par_name S) fun nm => par_beq (par_is S _) fun b => by
  cases b
  · exact par_beq (par_took S _) fun c => by
      cases c
      · exact par_nd ha .nil
      · exact par_bind (par_arguments S hE) fun l l' hl => par_nd ha hl
  · exact par_bind (par_arguments S hE) fun l l' hl => par_nd ha hl
theorem par_construction (S : Sim P r r') {E E' : PM Tree} (hE : Par r (TR P) E E') : Par r (TR P) (constructionM r E) (constructionM r' E') := par_bind (par_here S) fun a a' ha => par_beq (par_need S _) fun _ => par_beq (par_name S) fun nm => par_bind (par_arguments S hE) fun l l' hl => par_nd ha hl
theorem par_paren (S : Sim P r r') {E E' : PM Tree} (hE : Par r (TR P) E E') : Par r (TR P) (parenM r E) (parenM r' E') := par_beq (par_need S _) fun _ => par_bind hE fun t t' ht => par_beq (par_need S _) fun _ => par_pure ht
theorem par_choice (S : Sim P r r') {E E' Bk Bk' : PM Tree} (hE : Par r (TR P) E E') (hB : Par r (TR P) Bk Bk') : Par r (TR P) (choiceM r E Bk) (choiceM r' E' Bk') := par_bind (par_here S) fun a a' ha => par_beq (par_need S _) fun _ => par_bind hE fun c c' hc => par_bind hB fun y y' hy => par_beq (par_need S _) fun _ => par_bind hB fun n n' hn => par_nd ha (.cons hc (.two hy hn))
theorem par_store (S : Sim P r r') {E E' : PM Tree} (hE : Par r (TR P) E E') (k : Int) {a a' : Int} (ha : P a a') : Par r (TR P) (storeM r E k a) (storeM r' E' k a') := par_beq (par_name S) fun nm => par_beq (par_need S _) fun _ => par_bind hE fun v v' hv => par_beq (par_need S _) fun _ => par_nd ha (.one hv)
theorem par_let (S : Sim P r r') {E E' : PM Tree} (hE : Par r (TR P) E E') : Par r (TR P) (letM r E) (letM r' E') := par_bind (par_here S) fun a a' ha => par_beq (par_need S _) fun _ => par_store S hE _ ha
theorem par_assign (S : Sim P r r') {E E' : PM Tree} (hE : Par r (TR P) E E') : Par r (TR P) (assignM r E) (assignM r' E') := par_bind (par_here S) fun a a' ha => par_store S hE _ ha
theorem par_while (S : Sim P r r') {E E' Bk Bk' : PM Tree} (hE : Par r (TR P) E E') (hB : Par r (TR P) Bk Bk') : Par r (TR P) (whileM r E Bk) (whileM r' E' Bk') := par_bind (par_here S) fun a a' ha => par_beq (par_need S _) fun _ => par_bind hE fun c c' hc => par_bind hB fun b b' hb => par_nd ha (.two hc hb)
theorem par_print (S : Sim P r r') {E E' : PM Tree} (hE : Par r (TR P) E E') : Par r (TR P) (printM r E) (printM r' E') := par_bind (par_here S) fun a a' ha => par_beq (par_need S _) fun _ => par_bind hE fun v v' hv => par_beq (par_need S _) fun _ => par_nd ha (.one hv)
theorem par_value (S : Sim P r r') {E E' : PM Tree} (hE : Par r (TR P) E E') : Par r (TR P) (valueM r E) (valueM r' E') := par_bind hE fun v v' hv => par_beq (par_is S _) fun b => by
  cases b
  · exact par_beq (par_need S _) fun _ => par_nd hv.at_ (.one hv)
  · exact par_pure hv
theorem par_stmt (S : Sim P r r') {E E' Bk Bk' : PM Tree} (hE : Par r (TR P) E E') (hB : Par r (TR P) Bk Bk') : Par r (TR P) (stmtM r E Bk) (stmtM r' E' Bk') := par_beq (par_is S _) fun b1 => by
  cases b1
  · exact par_beq (par_is S _) fun b2 => by
      cases b2
      · exact par_beq (par_is S _) fun b3 => by
          cases b3
          · refine par_bind (par_tok S) fun x x' hx => ?_
            rw [hx.1]
            cases decide (x.kind = 1)
            · exact par_value S hE
            · exact par_beq (par_peek S) fun y => by
                cases isB y ⟨#[61]⟩
                · exact par_value S hE
                · exact par_assign S hE
          · exact par_print S hE
      · exact par_while S hE hB
  · exact par_let S hE
theorem par_stmts (S : Sim P r r') {E E' Bk Bk' : PM Tree} (hE : Par r (TR P) E E') (hB : Par r (TR P) Bk Bk') : ∀ f l l', LR P l l' → Par r (LR P) (stmtsM r E Bk f l) (stmtsM r' E' Bk' f l')
  | 0, l, l', h => par_fail
  | f + 1, l, l', h => par_beq (par_is S _) fun b => by
    cases b
    · exact par_bind (par_stmt S hE hB) fun u u' hu => par_stmts S hE hB f _ _ (h.append (.one hu))
    · exact par_pure h
theorem par_block (S : Sim P r r') {E E' Bk Bk' : PM Tree} (hE : Par r (TR P) E E') (hB : Par r (TR P) Bk Bk') : Par r (TR P) (blockM r E Bk) (blockM r' E' Bk') := by
  unfold blockM
  rw [S.len]
  refine par_bind (par_here S) fun a a' ha => par_beq (par_need S _) fun _ => fun i hi => ?_
  unfold bindM
  rcases par_stmts S hE hB (r.L.length + 1) [] [] .nil i hi with ⟨k, g1, g2, g3, g4⟩ | ⟨l, l', j, g1, g2, g3, g4, g5⟩
  · rw [g1, g2]; exact .err g3 g4
  · rw [g1, g2]
    have hm := stmts_end _ _ _ _ _ g1
    have hl : ∀ x x', TkR P x x' → LR P (if noValue l = true then l ++ [.mk 31 ⟨#[]⟩ x.at_ []] else l) (if noValue l' = true then l' ++ [.mk 31 ⟨#[]⟩ x'.at_ []] else l') := fun x x' hx => by
      rw [g3.last]
      by_cases hn : noValue l = true
      · (repeat rw [if_pos hn]); exact g3.append (.one (.of hx.2.2 .nil))
      · (repeat rw [if_neg hn]); exact g3
    have key : RE r (TR P) j (bindM (takeM r) (fun x => ndM 30 ⟨#[]⟩ a (if noValue l = true then l ++ [.mk 31 ⟨#[]⟩ x.at_ []] else l)) j) (bindM (takeM r') (fun x => ndM 30 ⟨#[]⟩ a' (if noValue l' = true then l' ++ [.mk 31 ⟨#[]⟩ x.at_ []] else l')) j) :=
      par_take_at S (S.ends.mark g5 hm (by decide)) fun x x' hx => par_nd ha (hl x x' hx)
    exact key.mono g4
theorem par_primary (S : Sim P r r') {E E' Bk Bk' : PM Tree} (hE : Par r (TR P) E E') (hB : Par r (TR P) Bk Bk') : Par r (TR P) (primaryM r E Bk) (primaryM r' E' Bk') := fun i hi => by
  unfold primaryM
  show RE r (TR P) i ((if (r.L.getD i tok0).kind = 3 then _ else _ : PM Tree) i) ((if (r'.L.getD i tok0).kind = 3 then _ else _ : PM Tree) i)
  rw [S.kind i, S.text i]
  by_cases h3 : (r.L.getD i tok0).kind = 3
  · (repeat rw [if_pos h3])
    exact par_take_at S (S.ints i hi h3) (fun x x' hx => par_nd (S.at_ i hi) .nil)
  (repeat rw [if_neg h3])
  by_cases h1 : (r.L.getD i tok0).kind = 1
  · (repeat rw [if_pos h1])
    exact par_named S hE i hi
  (repeat rw [if_neg h1])
  by_cases h2 : isB (r.L.getD i tok0).text ⟨#[116, 114, 117, 101]⟩ = true ∨ isB (r.L.getD i tok0).text ⟨#[102, 97, 108, 115, 101]⟩ = true
  · (repeat rw [if_pos h2])
    refine par_take_at S (S.ends i hi (.inr ?_)) (fun x x' hx => par_nd (S.at_ i hi) .nil)
    rcases h2 with h2 | h2
    · exact isB_size h2 (by decide)
    · exact isB_size h2 (by decide)
  (repeat rw [if_neg h2])
  exact par_if (par_construction S hE) (par_if (par_paren S hE) (par_if (par_choice S hE hB) (par_if (par_block S hE hB) par_fail))) i hi
theorem par_dots (S : Sim P r r') : ∀ f t t', TR P t t' → Par r (TR P) (dotsM r f t) (dotsM r' f t')
  | 0, t, t', h => par_fail
  | f + 1, t, t', h => par_beq (par_took S _) fun b => by
    cases b
    · exact par_pure h
    · exact par_beq (par_name S) fun nm => par_dots S f _ _ (.of h.at_ (.one h))
theorem par_post (S : Sim P r r') {E E' Bk Bk' : PM Tree} (hE : Par r (TR P) E E') (hB : Par r (TR P) Bk Bk') : Par r (TR P) (postM r E Bk) (postM r' E' Bk') := by
  unfold postM
  rw [S.len]
  exact par_bind (par_primary S hE hB) fun t t' h => par_dots S _ t t' h
theorem par_unary (S : Sim P r r') {E E' Bk Bk' U U' : PM Tree} (hE : Par r (TR P) E E') (hB : Par r (TR P) Bk Bk') (hU : Par r (TR P) U U') : Par r (TR P) (unaryM r E Bk U) (unaryM r' E' Bk' U') := par_bind (par_here S) fun a a' ha => par_beq (par_sign S _) fun sg => by
  cases sg.toList.isEmpty
  · exact par_bind hU fun t t' h => par_nd ha (.one h)
  · exact par_post S hE hB
theorem par_rel (S : Sim P r r') {E E' Bk Bk' U U' : PM Tree} (hE : Par r (TR P) E E') (hB : Par r (TR P) Bk Bk') (hU : Par r (TR P) U U') : Par r (TR P) (relM r E Bk U) (relM r' E' Bk' U') := by
  have hs : Par r (TR P) (sumM r E Bk U) (sumM r' E' Bk' U') := par_chainP S (par_chainP S (par_unary S hE hB hU))
  exact par_bind hs fun t t' h => par_beq (par_sign S _) fun sg => by
    cases sg.toList.isEmpty
    · exact par_bind hs fun u u' hu => par_pure (.of h.at_ (.two h hu))
    · exact par_pure h
theorem par_expr (S : Sim P r r') {E E' Bk Bk' U U' : PM Tree} (hE : Par r (TR P) E E') (hB : Par r (TR P) Bk Bk') (hU : Par r (TR P) U U') : Par r (TR P) (exprM r E Bk U) (exprM r' E' Bk' U') := par_chainP S (par_chainP S (par_rel S hE hB hU))
theorem par_sub (S : Sim P r r') : ∀ d, Par r (TR P) (subL r d).E (subL r' d).E ∧ Par r (TR P) (subL r d).B (subL r' d).B ∧ Par r (TR P) (subL r d).U (subL r' d).U
  | 0 => ⟨par_fail, par_fail, par_fail⟩
  | d + 1 => by
    obtain ⟨h1, h2, h3⟩ := par_sub S d
    exact ⟨par_expr S h1 h2 h3, par_block S h1 h2, par_unary S h1 h2 h3⟩

-- types and items
theorem par_nameP (S : Sim P r r') : Par r (TR P) (nameP r) (nameP r') := fun i hi => by
  unfold nameP
  rw [S.kind i, S.text i]
  by_cases hk : (r.L.getD i tok0).kind = 1
  · (repeat rw [if_pos hk]); exact .ok (.of (S.at_ i hi) .nil) (by omega) (S.ends i hi (.inl hk))
  · (repeat rw [if_neg hk]); exact .err (Nat.le_refl _) hi
theorem par_noParams (S : Sim P r r') : Par r (TR P) (noParamsP r) (noParamsP r') := fun i hi => .ok (.of (S.at_ i hi) .nil) (Nat.le_refl _) hi
theorem par_arg (S : Sim P r r') {T T' : PM Tree} (hT : Par r (TR P) T T') : Par r (TR P) (argP r T) (argP r' T') := fun i hi => by
  unfold argP
  rw [S.kind i, S.text i, S.mark]
  by_cases hk : (r.L.getD i tok0).kind = 1
  · (repeat rw [if_pos hk])
    have h1 := S.ends i hi (.inl hk)
    by_cases hm : isMark r (i + 1) ⟨#[58]⟩ = true
    · (repeat rw [if_pos hm])
      have h2 := S.ends.mark h1 hm (by decide)
      rcases hT (i + 2) h2 with ⟨k, g1, g2, g3, g4⟩ | ⟨u, u', m, g1, g2, g3, g4, g5⟩
      · rw [g1, g2]; exact .err (by omega) g4
      · rw [g1, g2]; exact .ok (.of (S.at_ i hi) (.one g3)) (by omega) g5
    · (repeat rw [if_neg hm]); exact .err (by omega) h1
  · (repeat rw [if_neg hk]); exact .err (Nat.le_refl _) hi
theorem par_result (S : Sim P r r') {T T' : PM Tree} (hT : Par r (TR P) T T') : Par r (TR P) (resultP r T) (resultP r' T') := fun i hi => by
  unfold resultP
  rw [S.mark]
  by_cases hm : isMark r i ⟨#[45, 62]⟩ = true
  · (repeat rw [if_pos hm]); exact (hT _ (S.ends.mark hi hm (by decide))).mono (by omega)
  · (repeat rw [if_neg hm]); exact .ok (.of (S.at_ i hi) .nil) (Nat.le_refl _) hi
theorem par_args (S : Sim P r r') {be en : ByteArray} {part part' : PM Tree} (hp : Par r (TR P) part part') (hb : be.size ≠ 0 := by decide) (hs : en.size ≠ 0 := by decide) : Par r (TR P) (argsP r be en part) (argsP r' be en part') := fun i hi => by
  unfold argsP
  rw [S.mark]
  by_cases hm : isMark r i be = true
  · (repeat rw [if_pos hm])
    have h2 := S.ends.mark hi hm hb
    rcases par_upTo S hp hs (i + 1) h2 with ⟨k, g1, g2, g3, g4⟩ | ⟨u, u', m, g1, g2, g3, g4, g5⟩
    · rw [g1, g2]; exact .err (by omega) g4
    · rw [g1, g2]; exact .ok (.of (S.at_ _ h2) g3) (by omega) g5
  · (repeat rw [if_neg hm]); exact .err (Nat.le_refl _) hi
theorem par_param (S : Sim P r r') : Par r (TR P) (paramP r) (paramP r') := fun i hi => by
  unfold paramP
  rw [S.kind i, S.text i, S.mark]
  by_cases hk : (r.L.getD i tok0).kind = 1
  · (repeat rw [if_pos hk])
    have h1 := S.ends i hi (.inl hk)
    by_cases hm : isMark r (i + 1) ⟨#[58]⟩ = true
    · (repeat rw [if_pos hm])
      have h2 := S.ends.mark h1 hm (by decide)
      rcases par_nameP S (i + 2) h2 with ⟨k, g1, g2, g3, g4⟩ | ⟨u, u', m, g1, g2, g3, g4, g5⟩
      · rw [g1, g2]; exact .err (by omega) g4
      · rw [g1, g2]; exact .ok (.of (S.at_ i hi) (.one g3)) (by omega) g5
    · (repeat rw [if_neg hm]); exact .ok (.of (S.at_ i hi) .nil) (by omega) h1
  · (repeat rw [if_neg hk]); exact .err (Nat.le_refl _) hi
theorem par_params (S : Sim P r r') : Par r (TR P) (paramsP r) (paramsP r') := fun i hi => by
  unfold paramsP
  rw [S.mark, S.len]
  by_cases hm : isMark r i ⟨#[60]⟩ = true
  · (repeat rw [if_pos hm])
    have h2 := S.ends.mark hi hm (by decide)
    rcases par_list S (par_param S) (by decide : (⟨#[44]⟩ : ByteArray).size ≠ 0) (r.L.length + 1) (i + 1) h2 with ⟨k, g1, g2, g3, g4⟩ | ⟨u, u', m, g1, g2, g3, g4, g5⟩
    · rw [g1, g2]; exact .err (by omega) g4
    · rw [g1, g2]
      show RE r (TR P) i (if isMark r m ⟨#[62]⟩ = true then _ else _) (if isMark r' m ⟨#[62]⟩ = true then _ else _)
      rw [S.mark]
      by_cases hg : isMark r m ⟨#[62]⟩ = true
      · (repeat rw [if_pos hg]); exact .ok (.of (S.at_ i hi) g3) (by omega) (S.ends.mark g5 hg (by decide))
      · (repeat rw [if_neg hg]); exact .err (by omega) g5
  · (repeat rw [if_neg hm]); exact par_noParams S i hi
theorem par_supers (S : Sim P r r') : Par r (TR P) (supersP r) (supersP r') := fun i hi => by
  unfold supersP
  rw [S.mark, S.len]
  by_cases hm : isMark r i ⟨#[58]⟩ = true
  · (repeat rw [if_pos hm])
    have h2 := S.ends.mark hi hm (by decide)
    rcases par_list S (par_nameP S) (by decide : (⟨#[43]⟩ : ByteArray).size ≠ 0) (r.L.length + 1) (i + 1) h2 with ⟨k, g1, g2, g3, g4⟩ | ⟨u, u', m, g1, g2, g3, g4, g5⟩
    · rw [g1, g2]; exact .err (by omega) g4
    · rw [g1, g2]; exact .ok (.of (S.at_ _ h2) g3) (by omega) g5
  · (repeat rw [if_neg hm]); exact .ok (.of (S.at_ i hi) .nil) (Nat.le_refl _) hi
theorem par_used (S : Sim P r r') (kd : Int) {a a' : Int} (ha : P a a') : Par r (TR P) (usedP r kd a) (usedP r' kd a') := fun i hi => by
  unfold usedP
  rw [S.mark, S.mark, S.kind, S.text]
  by_cases hm : isMark r i ⟨#[117, 115, 101]⟩ = true
  · (repeat rw [if_pos hm])
    have h1 := S.ends.mark hi hm (by decide)
    by_cases hk : (r.L.getD (i + 1) tok0).kind = 1
    · (repeat rw [if_pos hk])
      have h2 := S.ends _ h1 (.inl hk)
      by_cases hg : isMark r (i + 2) ⟨#[59]⟩ = true
      · (repeat rw [if_pos hg]); exact .ok (.of ha .nil) (by omega) (S.ends.mark h2 hg (by decide))
      · (repeat rw [if_neg hg]); exact .err (by omega) h2
    · (repeat rw [if_neg hk]); exact .err (by omega) h1
  · (repeat rw [if_neg hm]); exact .err (Nat.le_refl _) hi
theorem par_use (S : Sim P r r') : Par r (TR P) (useP r) (useP r') := fun i hi => par_used S 1 (S.at_ i hi) i hi
theorem par_pubUse (S : Sim P r r') : Par r (TR P) (pubUseP r) (pubUseP r') := fun i hi => by
  unfold pubUseP
  rw [S.mark]
  by_cases hm : isMark r i ⟨#[112, 117, 98]⟩ = true
  · (repeat rw [if_pos hm]); exact (par_used S 2 (S.at_ i hi) _ (S.ends.mark hi hm (by decide))).mono (by omega)
  · (repeat rw [if_neg hm]); exact .err (Nat.le_refl _) hi
theorem par_typ (S : Sim P r r') (s : Bool) : ∀ d, Par r (TR P) (typL r s d) (typL r' s d)
  | 0 => par_fail
  | d + 1 => fun i hi => by
    show RE r (TR P) i (typAt r s (typL r s d) i) (typAt r' s (typL r' s d) i)
    unfold typAt
    rw [S.text, S.mark]
    by_cases h1 : hit (r.L.getD i tok0).text W3 = true
    · (repeat rw [if_pos h1]); exact .ok (.of (S.at_ i hi) .nil) (by omega) (S.ends i hi (.inr (hit_size h1 W3_full)))
    (repeat rw [if_neg h1])
    by_cases h2 : s = true ∧ isMark r i selfB = true
    · (repeat rw [if_pos h2]); exact .ok (.of (S.at_ i hi) .nil) (by omega) (S.ends.mark hi h2.2 (by decide))
    (repeat rw [if_neg h2])
    unfold typTail
    rw [S.kind, S.text, S.mark, S.len]
    by_cases hk : (r.L.getD i tok0).kind = 1
    · (repeat rw [if_pos hk])
      have h3 := S.ends i hi (.inl hk)
      by_cases hm : isMark r (i + 1) ⟨#[60]⟩ = true
      · (repeat rw [if_pos hm])
        have h4 := S.ends.mark h3 hm (by decide)
        rcases par_list S (par_typ S s d) (by decide : (⟨#[44]⟩ : ByteArray).size ≠ 0) (r.L.length + 1) (i + 2) h4 with ⟨k, g1, g2, g3, g4⟩ | ⟨u, u', m, g1, g2, g3, g4, g5⟩
        · rw [g1, g2]; exact .err (by omega) g4
        · rw [g1, g2]
          show RE r (TR P) i (if isMark r m ⟨#[62]⟩ = true then _ else _) (if isMark r' m ⟨#[62]⟩ = true then _ else _)
          rw [S.mark]
          by_cases hg : isMark r m ⟨#[62]⟩ = true
          · (repeat rw [if_pos hg]); exact .ok (.of (S.at_ i hi) g3) (by omega) (S.ends.mark g5 hg (by decide))
          · (repeat rw [if_neg hg]); exact .err (by omega) g5
      · (repeat rw [if_neg hm]); exact .ok (.of (S.at_ i hi) .nil) (by omega) h3
    · (repeat rw [if_neg hk]); exact .err (Nat.le_refl _) hi
theorem par_all (S : Sim P r r') {en : ByteArray} {part part' : PM Tree} (hp : Par r (TR P) part part') (hs : en.size ≠ 0) : ∀ f l l', LR P l l' → Par r (LR P) (allM r en part f l) (allM r' en part' f l')
  | 0, l, l', h => par_fail
  | f + 1, l, l', h => par_beq (par_took S en hs) fun b => by
    cases b
    · exact par_bind hp fun t t' ht => par_all S hp hs f _ _ (h.append (.one ht))
    · exact par_pure h
theorem par_allP (S : Sim P r r') {en : ByteArray} {part part' : PM Tree} (hp : Par r (TR P) part part') (hs : en.size ≠ 0 := by decide) : Par r (LR P) (allP r en part) (allP r' en part') := by
  unfold allP
  rw [S.len]
  exact par_all S hp hs _ _ _ .nil
theorem par_constant (S : Sim P r r') {T T' E E' : PM Tree} (hT : Par r (TR P) T T') (hX : Par r (TR P) E E') : Par r (TR P) (constantM r T E) (constantM r' T' E') := par_bind (par_here S) fun a a' ha => par_beq (par_need S _) fun _ => par_beq (par_name S) fun nm => par_beq (par_need S _) fun _ => par_bind hT fun o o' ho => par_beq (par_need S _) fun _ => par_bind hX fun v v' hv => par_beq (par_need S _) fun _ => par_nd ha (.two ho hv)
theorem par_argsC (S : Sim P r r') {T T' : PM Tree} (hT : Par r (TR P) T T') : Par r (TR P) (argsC r T) (argsC r' T') := par_args S (par_arg S hT)
theorem par_function (S : Sim P r r') {Ps Ps' T T' Bk Bk' : PM Tree} (hP : Par r (TR P) Ps Ps') (hT : Par r (TR P) T T') (hB : Par r (TR P) Bk Bk') : Par r (TR P) (functionM r Ps T Bk) (functionM r' Ps' T' Bk') := par_bind (par_here S) fun a a' ha => par_beq (par_need S _) fun _ => par_beq (par_name S) fun nm => par_bind hP fun p p' hp => par_bind (par_argsC S hT) fun q q' hq => par_bind (par_result S hT) fun o o' ho => par_bind hB fun b b' hb => par_nd ha (.cons hp (.cons hq (.two ho hb)))
theorem par_record (S : Sim P r r') {T T' : PM Tree} (hT : Par r (TR P) T T') : Par r (TR P) (recordM r T) (recordM r' T') := par_bind (par_here S) fun a a' ha => par_beq (par_need S _) fun _ => par_beq (par_name S) fun nm => par_bind (par_params S) fun p p' hp => par_bind (par_args S (par_arg S hT)) fun q q' hq => par_nd ha (.two hp hq)
theorem par_sig (S : Sim P r r') {T T' : PM Tree} (hT : Par r (TR P) T T') : Par r (TR P) (sigM r T) (sigM r' T') := par_bind (par_here S) fun a a' ha => par_beq (par_need S _) fun _ => par_beq (par_name S) fun nm => par_bind (par_argsC S hT) fun q q' hq => par_bind (par_result S hT) fun o o' ho => par_beq (par_need S _) fun _ => par_nd ha (.two hq ho)
theorem par_trait (S : Sim P r r') {T T' : PM Tree} (hT : Par r (TR P) T T') : Par r (TR P) (traitM r T) (traitM r' T') := par_bind (par_here S) fun a a' ha => par_beq (par_need S _) fun _ => par_beq (par_name S) fun nm => par_bind (par_supers S) fun u u' hu => par_beq (par_need S _) fun _ => par_bind (par_allP S (par_sig S hT)) fun l l' hl => par_nd ha (.cons hu hl)
theorem par_impl (S : Sim P r r') {T T' Bk Bk' : PM Tree} (hT : Par r (TR P) T T') (hB : Par r (TR P) Bk Bk') : Par r (TR P) (implM r T Bk) (implM r' T' Bk') := par_bind (par_here S) fun a a' ha => par_beq (par_need S _) fun _ => par_bind (par_params S) fun p p' hp => par_beq (par_name S) fun nm => par_beq (par_need S _) fun _ => par_bind hT fun t t' ht => par_beq (par_need S _) fun _ => par_bind (par_allP S (par_function S (par_noParams S) hT hB)) fun l l' hl => par_nd ha (.cons hp (.cons ht hl))
theorem par_macro (S : Sim P r r') {E E' : PM Tree} (hX : Par r (TR P) E E') : Par r (TR P) (macroM r E) (macroM r' E') := par_bind (par_here S) fun a a' ha => par_beq (par_need S _) fun _ => par_beq (par_name S) fun nm => par_bind (par_args S (par_nameP S)) fun q q' hq => par_beq (par_need S _) fun _ => par_bind hX fun v v' hv => par_beq (par_need S _) fun _ => par_nd ha (.two hq hv)
theorem par_itemT (S : Sim P r r') : Par r (TR P) (itemT r) (itemT r') := by
  obtain ⟨h1, h2, h3⟩ := par_sub S 60
  have t0 := par_typ S false 60
  have t1 := par_typ S true 60
  unfold itemT itemM
  refine par_bind (par_tok S) fun x x' hx => ?_
  rw [hx.2.1]
  exact par_if (par_use S) (par_if (par_pubUse S) (par_if (par_constant S t0 h1) (par_if (par_function S (par_params S) t0 h2) (par_if (par_record S t0) (par_if (par_trait S t1) (par_if (par_impl S t0 h2) (par_if (par_macro S h1) par_fail)))))))

-- modules
def IR (P : Int → Int → Prop) (l l' : List Int) : Prop := l.length = l'.length ∧ ∀ i (h : i < l.length) (h' : i < l'.length), P l[i] l'[i]
theorem IR.nil {P : Int → Int → Prop} : IR P [] [] := ⟨rfl, fun i h _ => absurd h (Nat.not_lt_zero i)⟩
theorem IR.snoc {P : Int → Int → Prop} {l l' : List Int} {a a' : Int} (hl : IR P l l') (ha : P a a') : IR P (l ++ [a]) (l' ++ [a']) := by
  refine ⟨by simp [hl.1], fun i h1 h2 => ?_⟩
  by_cases h : i < l.length
  · rw [List.getElem_append_left h, List.getElem_append_left (by rw [← hl.1]; exact h)]
    exact hl.2 i h _
  · have e1 : i = l.length := by simp only [List.length_append, List.length_cons, List.length_nil] at h1; omega
    have e2 : i = l'.length := by rw [e1, hl.1]
    rw [List.getElem_append_right (by omega), List.getElem_append_right (by omega)]
    simp only [List.getElem_singleton]
    exact ha
theorem par_resP (S : Sim P r r') (first : Nat) : ∀ f k, resP r'.L first f k = resP r.L first f k
  | 0, k => rfl
  | f + 1, k => by
    unfold resP
    rw [S.kind, S.text, par_resP S first f]
def MR (P : Int → Int → Prop) : Option (List Tree × List Int) → Option (List Tree × List Int) → Prop
  | some (ts, es), some (ts', es') => LR P ts ts' ∧ IR P es es'
  | none, none => True
  | _, _ => False
theorem resP_lt {L : List Lx.Tok} (hT : Toks L) (first : Nat) : ∀ f k, k < L.length → resP L first f k < L.length
  | 0, k, h => h
  | f + 1, k, h => by
    unfold resP
    by_cases h0 : (L.getD k tok0).kind = 0
    · rw [if_pos h0]; exact h
    · rw [if_neg h0]
      split
      · exact resP_lt hT first f (k + 1) (hT.inner h (.inl h0))
      · exact h
theorem par_modM (S : Sim P r r') (hT : Toks r.L) {p p' : PM Tree} (hp : Par r (TR P) p p') : ∀ f k ts ts' es es', k < r.L.length → LR P ts ts' → IR P es es' → MR P (modM r.L p f k ts es) (modM r'.L p' f k ts' es')
  | 0, k, ts, ts', es, es', hk, ht, he => trivial
  | f + 1, k, ts, ts', es, es', hk, ht, he => by
    unfold modM
    rw [S.kind]
    by_cases h0 : (r.L.getD k tok0).kind = 0
    · (repeat rw [if_pos h0]); exact ⟨ht, he⟩
    · (repeat rw [if_neg h0])
      rcases hp k hk with ⟨j, h1, h2, h3, h4⟩ | ⟨t, t', j, h1, h2, h3, h4, h5⟩
      · rw [h1, h2]
        show MR P (modM r.L p f (resP r.L k (r.L.length + 1) j) ts (es ++ [(r.L.getD j tok0).at_])) (modM r'.L p' f (resP r'.L k (r'.L.length + 1) j) ts' (es' ++ [(r'.L.getD j tok0).at_]))
        rw [S.len, par_resP S]
        exact par_modM S hT hp f _ _ _ _ _ (resP_lt hT _ _ _ h4) ht (he.snoc (S.at_ j h4))
      · rw [h1, h2]
        exact par_modM S hT hp f j _ _ _ _ h5 (ht.append (.one h3)) he
theorem par_modV (S : Sim P r r') (hT : Toks r.L) : MR P (modV r.L (itemT r)) (modV r'.L (itemT r')) := by
  have h0 : r.L.length ≠ 0 := by have := hT.pos; omega
  unfold modV
  rw [S.len, if_neg h0, if_neg h0]
  exact par_modM S hT (par_itemT S) _ _ _ _ _ _ hT.pos .nil .nil
end Go.Proofs.YtnkojbnkdihbkaaGreat

/-
  CONTRACT: where a token of one text stands in the other.
-/
namespace Go.Proofs.YtnkojbnkdihbkaaGreat
open Go Go.RowKit
set_option linter.unusedVariables false

theorem int_cells {w : World} {b off : Nat} {es : List Int} (h : CellsAt w b off (intE.all es)) (j : Nat) (hj : j < es.length) : w.cell? ⟨b, off + j, none⟩ = some (.int .i64 (es.getD j 0)) := by
  rw [getD_eq es 0 j hj]
  have := h.elem j hj 0 (by decide) _ rfl
  have e : intE.size = 1 := rfl
  rw [e, Nat.mul_one] at this
  exact this
attribute [local go_sem] field_tok0 field_tok1 field_tok2

set_option maxHeartbeats 1000000 in
set_option maxRecDepth 100000 in
theorem where_any (a : Int) (v1 v2 : Value) (L : List Lx.Tok) (es : List Int) (i0 : Nat) (w : World) (hc : L.length ≤ 4611686018427387904) (h1 : SlIs tokEnc w v1 L) (h2 : SlIs intE w v2 es) (hi0 : i0 < L.length) (he : i0 < es.length)
    (ha : (L.getD i0 tok0).at_ = a) (hb : ∀ j, j < i0 → (L.getD j tok0).at_ ≠ a) :
    Calls Tryz.prog 16 #[.int .i64 a, v1, v2] w fun e w' => e = .returned (.int .i64 (es.getD i0 0)) ∧ w' = w := by
  obtain ⟨p1, cap1, rfl, _, _, h1'⟩ := h1
  obtain ⟨p2, cap2, rfl, _, _, h2'⟩ := h2
  obtain ⟨b1, off1, rfl, hcells1⟩ := h1' (by omega)
  obtain ⟨b2, off2, rfl, hcells2⟩ := h2' (by omega)
  have HC := Lib.hid hcells1
  have HE := int_cells hcells2 i0 he
  generalize hn : L.length = n at *
  have Hn := Lib.hid hn
  generalize hm : es.length = m at *
  have HA := Lib.hid ha
  have HB := Lib.hid hb
  clear h1' h2' hcells1 hcells2 ha hb
  generalize es.getD i0 0 = x0 at *
  go_enter Tryz.func16, Tryz.ntmps16
  go_wp2
  go_loopw [7] (fun i wr => wr = w ∧ ∃ j : Nat, j ≤ i0 ∧ i = .int .i64 j) (fun i _ => i0 - (intOf i).toNat)
  case atStart => exact ⟨rfl, 0, Nat.zero_le _, rfl⟩
  case round =>
    obtain ⟨rfl, j, hj, rfl⟩ := hrel
    obtain ⟨y0, y1, x2⟩ := tok_cells HC.out j (by rw [Hn.out]; omega)
    have hlt : (j : Int) < (n : Int) := by omega
    by_cases hje : j = i0
    · subst hje
      rw [HA.out] at x2
      go_wp2
      go_ret
      exact ⟨rfl, rfl⟩
    · have hne := HB.out j (by omega)
      generalize (L.getD j tok0).at_ = c at *
      have hd : decide (c = a) = false := by simpa using hne
      go_wp2
      go_roundw
      case rel => exact ⟨by first | rfl | trivial, j + 1, by omega, by go_num⟩
      case measure => simp [intOf]; omega
end Go.Proofs.YtnkojbnkdihbkaaGreat

/-
  LAWS: a region that draws its order, whose operations only read, and whose callees read, draw, and lay blocks of their own, walked once in the order of the text: at the class of the worlds in which nothing that was there has turned.
-/
namespace Go.Proofs.YtnkojbnkdihbkaaGreat
open Go Go.RowKit
set_option linter.unusedVariables false

/-- how far a world has gone: the count of draws, the blocks laid behind -/
structure Gb where
  d : Nat
  os : Array Obj
instance : Inhabited Gb := ⟨⟨0, #[]⟩⟩
def grew (w : World) (p : Gb) : World := { w with heap := w.heap ++ p.os, drawn := p.d }

theorem grew_block (w : World) (p : Gb) (k : Nat) (h : k < w.heap.size) : (grew w p).heap[k]? = w.heap[k]? := by
  show (w.heap ++ p.os)[k]? = _
  rw [Array.getElem?_append, if_pos h]
theorem grew_below (w : World) (p : Gb) : Below w.heap.size w (grew w p) :=
  ⟨rfl, rfl, rfl, by simp [grew], fun k hk => grew_block w p k hk⟩
theorem below_grew {w w' : World} (h : Below w.heap.size w w') : ∃ p : Gb, w' = grew w p := by
  refine ⟨⟨w'.drawn, w'.heap.extract w.heap.size w'.heap.size⟩, ?_⟩
  have hh : w'.heap = w.heap ++ w'.heap.extract w.heap.size w'.heap.size := by
    apply Array.ext_getElem?
    intro k
    rw [Array.getElem?_append]
    by_cases hk : k < w.heap.size
    · rw [if_pos hk]; exact h.block k hk
    · rw [if_neg hk, Array.getElem?_extract]
      have := h.size
      by_cases h2 : k < w'.heap.size
      · rw [if_pos (by omega)]; congr 1; omega
      · rw [if_neg (by omega)]; simp; omega
  have h1 := h.os
  have h2 := h.tape
  have h3 := h.output
  cases w'
  cases w
  simp only at *
  subst h1
  subst h2
  subst h3
  simp only [grew]
  rw [← hh]
theorem cell_grew {w : World} {a : Addr} {v : Value} (h : w.cell? a = some v) (p : Gb) : (grew w p).cell? a = some v := by
  rw [(grew_below w p).cell (World.block_lt_of_cell? w _ h)]; exact h
/-- a callee's contract, met in a world of the class -/
theorem Calls.grew_of {P : Program} {f : FuncId} {args : Array Value} {w : World} {p : Gb} {v : Value}
    (h : Calls P f args (grew w p) fun e w' => e = .returned v ∧ Below (grew w p).heap.size (grew w p) w') : Calls P f args (grew w p) fun e w'' => e = .returned v ∧ ∃ q : Gb, w'' = grew w q :=
  h.mono fun _ _ ⟨he, hb⟩ => ⟨he, below_grew ((grew_below w p).trans (hb.mono (grew_below w p).size))⟩
theorem wp_region_grew {P : Program} {id : Nat} {Q : Exit → Act → World → Prop} {a : Act} {w : World} {l : List Oper} (hm : P.follows .mixedOrders = true) (hB : Region.lexB .any l.toArray = true)
    (h : wpQuiet P l.toArray (fun w' => ∃ p : Gb, w' = grew w p) (fun a' => ∀ w', (∃ p : Gb, w' = grew w p) → Q .normal a' w') l a) : (Code.region id l.toArray true).wp P Q a w :=
  wp_region_quiet (C := fun w' => ∃ p : Gb, w' = grew w p) hm hB (below_grew (Below.refl _ _).drew) (by simpa using h)
theorem of_grew {w w' : World} (h : ∃ p : Gb, w' = grew w p) : Below w.heap.size w w' := by
  obtain ⟨p, rfl⟩ := h
  exact grew_below w p
end Go.Proofs.YtnkojbnkdihbkaaGreat

/-
  CONTRACT: two trees that are alike but for their places, which are those of the same tokens, are told so.
-/
namespace Go.Proofs.YtnkojbnkdihbkaaGreat
open Go Go.RowKit
set_option linter.unusedVariables false

/-- the place of a token in either text -/
def PlaceR (L : List Lx.Tok) (es : List Int) (a a' : Int) : Prop := ∃ i, i < L.length ∧ i < es.length ∧ (L.getD i tok0).at_ = a ∧ (∀ j, j < i → (L.getD j tok0).at_ ≠ a) ∧ es.getD i 0 = a'
theorem where_place {L : List Lx.Tok} {es : List Int} {a a' : Int} (h : PlaceR L es a a') {v1 v2 : Value} {w : World} (hc : L.length ≤ 4611686018427387904) (h1 : SlIs tokEnc w v1 L) (h2 : SlIs intE w v2 es) :
    Calls Tryz.prog 16 #[.int .i64 a, v1, v2] w fun e w' => e = .returned (.int .i64 a') ∧ w' = w := by
  obtain ⟨i, g1, g2, g3, g4, g5⟩ := h
  rw [← g5]
  exact where_any a v1 v2 L es i w hc h1 h2 g1 g2 g3 g4

theorem IsTs.few {A : Nat → Prop} {w : World} {p : Option Addr} {n cap : Nat} {l : List Tree} (h : IsTs A w (.slice p n cap) l) : n ≤ maxLen := by
  obtain ⟨p', n', cap', R, e, h1, _⟩ := h
  cases e
  obtain ⟨_, h2, h3, _⟩ := h1.lies
  omega
theorem keep_cell {w w' : World} {a : Addr} {v : Value} (hb : Below w.heap.size w w') (h : w.cell? a = some v) : w'.cell? a = some v := by
  rw [hb.cell (World.block_lt_of_cell? w _ h)]
  exact h
theorem two_boxes (w : World) (o1 o2 : Obj) (k : Nat) : Below w.heap.size w (((w.alloc o1).alloc o2).drewN k) := by
  have h1 := boxB w o1
  have h2 := boxB (w.alloc o1) o2
  have h3 := drew_below (B := ((w.alloc o1).alloc o2).heap.size) (w := (w.alloc o1).alloc o2) k
  exact (h1.trans (h2.mono h1.size)).trans (h3.mono (Nat.le_trans h1.size h2.size))
set_option maxHeartbeats 2000000 in
set_option maxRecDepth 100000 in
theorem shifted_any (p1 p2 : Option Addr) (n1 cap1 n2 cap2 : Nat) (L : List Lx.Tok) (es : List Int) (hc : L.length ≤ 4611686018427387904) {t t' : Tree} (ht : TR (PlaceR L es) t t') :
    ∀ (q q' : Raw) (A A' : Nat → Prop) (w : World), IsT A w q t → IsT A' w q' t' → SlIs tokEnc w (.slice p1 n1 cap1) L → SlIs intE w (.slice p2 n2 cap2) es →
      Calls Tryz.prog 15 #[.agg (ndC q), .agg (ndC q'), .slice p1 n1 cap1, .slice p2 n2 cap2] w fun e w' => e = .returned (.bool true) ∧ Below w.heap.size w w' := by
  induction ht with
  | @mk k s a a' l l' hP hlen hkids ih =>
    intro q q' A A' w h1 h2 hs1 hs2
    obtain ⟨e1, e2, e3, T1⟩ := h1.parts
    obtain ⟨f1, f2, f3, T2⟩ := h2.parts
    obtain ⟨k1, x1, b1, r1, m1, g1⟩ := q
    obtain ⟨k2, x2, b2, r2, m2, g2⟩ := q'
    dsimp only [Tree.kind, Tree.text, Tree.at_, Tree.kids] at e1 e2 e3 f1 f2 f3 T1 T2
    subst e1 e2 e3 f1 f2 f3
    have hm1 := T1.at_.1
    have hm2 : m2 = l.length := by rw [T2.at_.1, hlen]
    have hmax := T2.few
    unfold maxLen at hmax
    have HT1 := Lib.hid T1
    have HT2 := Lib.hid T2
    have HS1 := Lib.hid hs1
    have HS2 := Lib.hid hs2
    have HP := Lib.hid hP
    have HI := Lib.hid ih
    have HL := Lib.hid hlen
    clear h1 h2 T1 T2 hs1 hs2 hP ih hkids hlen
    obtain ⟨n, hn⟩ : ∃ n, l.length = n := ⟨_, rfl⟩
    rw [hn] at hm1 hm2
    have Hn := Lib.hid hn
    clear hn
    subst hm1
    subst hm2
    unfold ndC
    dsimp only
    go_enter Tryz.func15, Tryz.ntmps15
    go_wp2
    have hs1' : ∀ (o1 o2 : Obj) k, SlIs tokEnc (((w.alloc o1).alloc o2).drewN k) (.slice p1 n1 cap1) L := fun o1 o2 k => HS1.out.below (two_boxes w o1 o2 k)
    have hs2' : ∀ (o1 o2 : Obj) k, SlIs intE (((w.alloc o1).alloc o2).drewN k) (.slice p2 n2 cap2) es := fun o1 o2 k => HS2.out.below (two_boxes w o1 o2 k)
    go_quiet ((go_at_call 16; refine Calls.quiet_of_same (where_place HP.out hc (hs1' _ _ _) (hs2' _ _ _))))
    go_wp2_with fail
    have HB1 := Lib.hid (two_boxes w (.cells #[.int .i64 k2, .string x2, .int .i64 b1, .slice r1 m2 g1] 42) (.cells #[.int .i64 k2, .string x2, .int .i64 b2, .slice r2 m2 g2] 42) nq)
    clear hs1' hs2' HP
    go_loopw [9] (fun v wr => ∃ j : Nat, j ≤ m2 ∧ v = .int .i64 j ∧ wr.cell? ⟨w.heap.size, 3, none⟩ = some (.slice r1 m2 g1) ∧ wr.cell? ⟨w.heap.size + 1, 3, none⟩ = some (.slice r2 m2 g2) ∧ Hid (Below w.heap.size w wr)) (fun i _ => m2 - (intOf i).toNat)
    case atStart => exact ⟨0, Nat.zero_le _, rfl, by simp [go_sem], by simp [go_sem], HB1⟩
    case round =>
      obtain ⟨j, hj, rfl, d1, d2, hb⟩ := hrel
      by_cases hlt : j < m2
      · have hjl : j < l.length := by rw [Hn.out]; exact hlt
        have hjl' : j < l'.length := by rw [← HL.out]; exact hjl
        obtain ⟨z1, off1, q1, rfl, I1, x10, x11, x12, x13⟩ := HT1.out.at_.2 j hjl
        obtain ⟨z2, off2, q2, rfl, I2, x20, x21, x22, x23⟩ := HT2.out.at_.2 j hjl'
        have HC := Lib.hid (fun W (hW : Below wr.heap.size wr W) => HI.out j hjl hjl' q1 q2 A A' W ((I1.later hb.out).later hW) ((I2.later hb.out).later hW) ((HS1.out.below hb.out).below hW) ((HS2.out.below hb.out).below hW))
        have hlj : (j : Int) < (m2 : Int) := by omega
        have y1 := fun q => cell_grew d1 q
        have y2 := fun q => cell_grew d2 q
        have y10 := fun q => cell_grew (keep_cell hb.out x10) q
        have y11 := fun q => cell_grew (keep_cell hb.out x11) q
        have y12 := fun q => cell_grew (keep_cell hb.out x12) q
        have y13 := fun q => cell_grew (keep_cell hb.out x13) q
        have y20 := fun q => cell_grew (keep_cell hb.out x20) q
        have y21 := fun q => cell_grew (keep_cell hb.out x21) q
        have y22 := fun q => cell_grew (keep_cell hb.out x22) q
        have y23 := fun q => cell_grew (keep_cell hb.out x23) q
        clear I1 I2 x10 x11 x12 x13 x20 x21 x22 x23
        go_wp2_with fail
        refine wp_region_grew (by kernel_rfl) (by kernel_rfl) ?_
        repeat (go_big_quiet_step ((go_at_call 15; exact Calls.grew_of (HC.out _ (grew_below _ _)))))
        refine wpQuiet_nil ?_
        intro w1 hq
        have HQ := Lib.hid (of_grew hq)
        have d1' := keep_cell HQ.out d1
        have d2' := keep_cell HQ.out d2
        clear hq y1 y2 y10 y11 y12 y13 y20 y21 y22 y23
        go_wp2_with fail
        go_roundw
        case rel => exact ⟨j + 1, by omega, by go_num, d1', d2', hb.out.trans (HQ.out.mono hb.out.size)⟩
        case measure => simp [intOf]; omega
      · go_wp2_with fail
        go_ret
        exact ⟨rfl, hb.out⟩
end Go.Proofs.YtnkojbnkdihbkaaGreat

/-
  PLAIN: a text, and the same tokens with blanks and comments between them, are read as trees that are alike but for their places.
-/
namespace Go.Proofs.YtnkojbnkdihbkaaGreat
open Go Go.RowKit
set_option linter.unusedVariables false

theorem tokList_small {s : ByteArray} (hs : s.size ≤ 20000) : tokList s = Lx.toks s := by unfold tokList; rw [if_pos hs]
theorem toks_toks {s : ByteArray} (hs : s.size ≤ 20000) : Toks (tokList s) := by
  rcases tokList_toks s with h | h
  · exfalso
    rw [tokList_small hs] at h
    obtain ⟨t, U, e⟩ := (Lx.toks_scan s).some
    rw [h] at e
    cases e
  · exact h
theorem getD_map {α β : Type} (f : α → β) (L : List α) (d : α) (i : Nat) : f (L.getD i d) = (L.map f).getD i (f d) := by
  simp only [List.getD_eq_getElem?_getD, List.getElem?_map]
  cases L[i]? <;> rfl
theorem sim_spread {s x : ByteArray} {g : Nat → Lx.Bs} (hg : ∀ i, g i ∈ Lx.gapsL) (hs : s.size ≤ 20000) (hx : x.size ≤ 20000) (he : x.data.toList = Lx.spread g 0 (tokList s)) :
    Sim (PlaceR (tokList s) (Lx.placesF g 0 0 (tokList s))) (core (tokList s)) (core (tokList x)) ∧ (tokList s).length = (Lx.placesF g 0 0 (tokList s)).length := by
  have hsc := Lx.toks_scan s
  have hT := toks_toks hs
  rw [tokList_small hs] at he hT ⊢
  rw [tokList_small hx]
  obtain ⟨U, hU, hm, hp⟩ := hsc.spread hg 0 0
  have hUx : Lx.toks x = U := (Lx.toks_scan x).det (by rw [he]; exact hU)
  rw [hUx]
  have hlen : U.length = (Lx.toks s).length := by have := congrArg List.length hm; simpa using this
  have hpl : (Lx.placesF g 0 0 (Lx.toks s)).length = (Lx.toks s).length := by rw [← hp, List.length_map, hlen]
  have hkt : ∀ i, Lx.kt2 (U.getD i tok0) = Lx.kt2 ((Lx.toks s).getD i tok0) := fun i => by rw [getD_map Lx.kt2, getD_map Lx.kt2, hm]
  refine ⟨⟨hlen, fun i => ?_, fun i => ?_, fun i hi => ?_, Toks.endAt (r := core (Lx.toks s)) hT, Toks.intAt (r := core (Lx.toks s)) hT⟩, hpl.symm⟩
  · exact congrArg Prod.fst (hkt i)
  · exact congrArg Prod.snd (hkt i)
  · have hi' : i < (Lx.toks s).length := hi
    refine ⟨i, hi', by rw [hpl]; exact hi', rfl, fun j hj => ?_, ?_⟩
    · have := List.pairwise_iff_getElem.1 hsc.up.2 j i (by omega) hi' hj
      show ((Lx.toks s).getD j tok0).at_ ≠ ((Lx.toks s).getD i tok0).at_
      rw [getD_eq _ _ _ hi', getD_eq _ _ _ (show j < (Lx.toks s).length by omega)]
      omega
    · rw [← hp]
      exact (getD_map Lx.Tok.at_ U tok0 i).symm
theorem mod_spread {s x : ByteArray} {g : Nat → Lx.Bs} (hg : ∀ i, g i ∈ Lx.gapsL) (hs : s.size ≤ 20000) (hx : x.size ≤ 20000) (he : x.data.toList = Lx.spread g 0 (tokList s)) :
    MR (PlaceR (tokList s) (Lx.placesF g 0 0 (tokList s))) (modOf s) (modOf x) :=
  par_modV (sim_spread hg hs hx he).1 (toks_toks hs)

-- the text and the places so far
def sprL (g : Nat → Lx.Bs) (L : List Lx.Tok) : Nat → Lx.Bs
  | 0 => []
  | j + 1 => sprL g L j ++ g j ++ (L.getD j tok0).text.data.toList
def plcL (g : Nat → Lx.Bs) (L : List Lx.Tok) : Nat → List Int
  | 0 => []
  | j + 1 => plcL g L j ++ [(((sprL g L j ++ g j).length : Nat) : Int)]
theorem plcL_length (g : Nat → Lx.Bs) (L : List Lx.Tok) : ∀ j, (plcL g L j).length = j
  | 0 => rfl
  | j + 1 => by rw [plcL, List.length_append, plcL_length g L j]; rfl
theorem sprL_all (g : Nat → Lx.Bs) (L : List Lx.Tok) : ∀ j, j ≤ L.length → sprL g L j ++ Lx.spread g j (L.drop j) = Lx.spread g 0 L ∧ plcL g L j ++ Lx.placesF g j (sprL g L j).length (L.drop j) = Lx.placesF g 0 0 L
  | 0, _ => ⟨rfl, rfl⟩
  | j + 1, h => by
    obtain ⟨h1, h2⟩ := sprL_all g L j (by omega)
    have hd : L.drop j = L.getD j tok0 :: L.drop (j + 1) := by rw [List.drop_eq_getElem_cons (by omega), getD_eq L tok0 j (by omega)]
    rw [hd] at h1 h2
    refine ⟨?_, ?_⟩
    · rw [← h1, sprL, Lx.spread]
      simp only [List.append_assoc]
    · rw [← h2, plcL, Lx.placesF, sprL]
      have e : (sprL g L j ++ g j ++ (L.getD j tok0).text.data.toList).length = (sprL g L j).length + (g j).length + (L.getD j tok0).text.size := by
        simp only [List.length_append, Lx.size_data]
      rw [e]
      simp only [List.append_assoc, List.cons_append, List.nil_append, List.length_append]
theorem sprL_end (g : Nat → Lx.Bs) (L : List Lx.Tok) : sprL g L L.length = Lx.spread g 0 L ∧ plcL g L L.length = Lx.placesF g 0 0 L := by
  have h := sprL_all g L L.length (Nat.le_refl _)
  rw [List.drop_of_length_le (Nat.le_refl _)] at h
  simpa [Lx.spread, Lx.placesF] using h
theorem gaps_short {g : Lx.Bs} (h : g ∈ Lx.gapsL) : g.length ≤ 6 := by
  simp only [Lx.gapsL, List.mem_cons, List.not_mem_nil, or_false] at h
  rcases h with rfl | rfl | rfl | rfl <;> decide
theorem sprL_size {g : Nat → Lx.Bs} (hg : ∀ i, g i ∈ Lx.gapsL) {L : List Lx.Tok} {B : Nat} (hB : ∀ t ∈ L, t.text.size ≤ B) : ∀ j, j ≤ L.length → (sprL g L j).length ≤ j * (6 + B)
  | 0, _ => Nat.zero_le _
  | j + 1, h => by
    have h1 := sprL_size hg hB j (by omega)
    have h2 := gaps_short (hg j)
    have h3 := hB (L.getD j tok0) (by rw [getD_eq L tok0 j (by omega)]; exact List.getElem_mem _)
    rw [sprL, List.length_append, List.length_append, Lx.size_data, Nat.succ_mul]
    omega
end Go.Proofs.YtnkojbnkdihbkaaGreat

/-
  CONTRACT: the sanity check of layer 3's statements.
-/
namespace Go.Proofs.YtnkojbnkdihbkaaGreat
open Go Go.RowKit
set_option linter.unusedVariables false

def awakeText3 : ByteArray := ⟨#[99, 111, 110, 115, 116, 32, 97, 58, 32, 105, 110, 116, 32, 61, 32, 49, 32, 43, 32, 50, 59]⟩
def awakeToks3 : List Lx.Tok := [⟨2, ⟨#[99, 111, 110, 115, 116]⟩, 0⟩, ⟨1, ⟨#[97]⟩, 6⟩, ⟨4, ⟨#[58]⟩, 7⟩, ⟨2, ⟨#[105, 110, 116]⟩, 9⟩, ⟨4, ⟨#[61]⟩, 13⟩, ⟨3, ⟨#[49]⟩, 15⟩, ⟨4, ⟨#[43]⟩, 17⟩, ⟨3, ⟨#[50]⟩, 19⟩, ⟨4, ⟨#[59]⟩, 20⟩, ⟨0, ByteArray.empty, 21⟩]
theorem awake_toks3 : tokList awakeText3 = awakeToks3 := by kernel_rfl
def awakeTree3 : Tree := .mk 3 ⟨#[97]⟩ 0 [.mk 15 ⟨#[105, 110, 116]⟩ 9 [], .mk 28 ⟨#[43]⟩ 15 [.mk 20 ⟨#[49]⟩ 15 [], .mk 20 ⟨#[50]⟩ 19 []]]
theorem awake_mod3 : modV awakeToks3 (itemT (core awakeToks3)) = some ([awakeTree3], []) := by kernel_rfl
theorem awake_of3 : modOf awakeText3 = some ([awakeTree3], []) := by unfold modOf; rw [awake_toks3]; exact awake_mod3
theorem IsTs.shape {A : Nat → Prop} {w : World} {v : Value} {l : List Tree} (h : IsTs A w v l) : ∃ p cap, v = .slice p l.length cap ∧ IsTs A w (.slice p l.length cap) l := by
  obtain ⟨p, n, cap, R, rfl, h1, h2, h3, h4, h5⟩ := h
  obtain ⟨hn, _⟩ := h1.lies
  have e : n = l.length := by omega
  subst e
  exact ⟨p, cap, rfl, ⟨p, _, cap, R, rfl, h1, h2, h3, h4, h5⟩⟩
theorem SlIs.shape {α : Type} {E : Enc α} {w : World} {v : Value} {L : List α} (h : SlIs E w v L) : ∃ p cap, v = .slice p L.length cap ∧ SlIs E w (.slice p L.length cap) L ∧ L.length ≤ maxLen := by
  obtain ⟨p, cap, rfl, h1, h2, h3⟩ := h
  exact ⟨p, cap, rfl, ⟨p, cap, rfl, h1, h2, h3⟩, Nat.le_trans h1 h2⟩

set_option maxHeartbeats 1000000 in
set_option maxRecDepth 100000 in
theorem awake03_any (w : World) : Calls Tryz.prog 8 #[] w fun e w' => e = .returned (.bool true) ∧ Below w.heap.size w w' := by
  go_enter Tryz.func8, Tryz.ntmps8
  go_wp2_with fail
  refine (parserModule_any awakeText3 _ (by decide)).mono ?_
  rintro e w1 hm
  rw [awake_of3] at hm
  obtain ⟨v5, v6, rfl, ht, he, hb⟩ := hm
  obtain ⟨p5, c5, rfl, ht⟩ := ht.shape
  obtain ⟨p6, c6, rfl, -, -, -⟩ := he
  obtain ⟨b, off, q, rfl, hq, c0, c1, c2, c3⟩ := ht.at_.2 0 (by decide)
  obtain ⟨e0, e1, e2, hk⟩ := hq.parts
  obtain ⟨k0, x0, a0, r0, m0, g0⟩ := q
  dsimp only at e0 e1 e2 c0 c1 c2 c3 hk
  have hm0 : m0 = 2 := hk.at_.1
  subst hm0
  obtain ⟨b', off', q', rfl, hq', d0, d1, d2, d3⟩ := hk.at_.2 1 (by decide)
  obtain ⟨f0, f1, f2, -⟩ := hq'.parts
  obtain ⟨k1, x1, a1, r1, m1, g1⟩ := q'
  dsimp only at f0 f1 f2 d0 d1 d2 d3
  rw [show k0 = 3 from e0] at c0
  rw [show k1 = 28 from f0] at d0
  rw [show a1 = 15 from f2] at d2
  have HB := Lib.hid hb
  clear hb hk hq hq' ht e0 e1 e2 f0 f1 f2 c1 c2 d1 d3
  simp only [Nat.zero_mul, Nat.add_zero, Nat.one_mul] at c0 c3 d0 d2
  go_wp2_with fail
  go_ret
  exact ⟨rfl, HB.out⟩
end Go.Proofs.YtnkojbnkdihbkaaGreat
