/-
  PLAIN: the plain readers stay among the tokens.
-/
import Derived.Test.YtheigpiffdabnaaGreatZA12
set_option linter.unusedSimpArgs false
set_option linter.unusedVariables false
namespace Go.Proofs.YtheigpiffdabnaaGreat
open Go Go.RowKit
/-- it stays among the tokens: where it comes to, and where it errs -/
def Fine {α : Type} (r : Rdr) (p : PM α) : Prop := ∀ i, i < r.L.length → (∀ x j, p i = .ok (x, j) → i ≤ j ∧ j < r.L.length) ∧ ∀ k, p i = .error k → i ≤ k ∧ k < r.L.length
theorem fine_same {α : Type} {r : Rdr} {p : PM α} (h : ∀ i, ∃ x, p i = .ok (x, i)) : Fine r p := fun i hi => by
 obtain ⟨x, hx⟩ := h i
 exact ⟨fun y j e => by rw [hx] at e; simp only [Except.ok.injEq, Prod.mk.injEq] at e; omega, fun k e => by rw [hx] at e; cases e⟩
theorem fine_pure {α : Type} {r : Rdr} (x : α) : Fine r (pureM x) := fine_same fun i => ⟨x, rfl⟩
theorem fine_nd {r : Rdr} (k : Int) (t : ByteArray) (a : Int) (l : List Tree) : Fine r (ndM k t a l) := fine_pure _
theorem fine_here (r : Rdr) : Fine r (hereM r) := fine_same fun i => ⟨_, rfl⟩
theorem fine_tok (r : Rdr) : Fine r (tokM r) := fine_same fun i => ⟨_, rfl⟩
theorem fine_is (r : Rdr) (sg : ByteArray) : Fine r (isM r sg) := fine_same fun i => ⟨_, rfl⟩
theorem fine_peek (r : Rdr) : Fine r (peekM r) := fine_same fun i => ⟨_, rfl⟩
theorem fine_fail {α : Type} {r : Rdr} : Fine r (failM : PM α) := fun i hi => ⟨fun x j e => (by cases e), fun k e => (by have e' : Except.error (ε := Nat) (α := α × Nat) i = .error k := e; simp only [Except.error.injEq] at e'; omega)⟩
theorem fine_bind {α β : Type} {r : Rdr} {p : PM α} {f : α → PM β} (hp : Fine r p) (hf : ∀ x, Fine r (f x)) : Fine r (bindM p f) := fun i hi => by
 obtain ⟨h1, h2⟩ := hp i hi
 unfold bindM
 cases hx : p i with
 | error k => exact ⟨fun x j e => (by cases e), fun k' e => by simp only [Except.error.injEq] at e; subst e; exact h2 k hx⟩
 | ok z =>
  obtain ⟨x, j⟩ := z
  obtain ⟨g1, g2⟩ := h1 x j hx
  obtain ⟨h3, h4⟩ := hf x j g2
  exact ⟨fun y m e => by have := h3 y m e; omega, fun k e => by have := h4 k e; omega⟩
theorem fine_if {α : Type} {r : Rdr} {c : Prop} [Decidable c] {p q : PM α} (hp : Fine r p) (hq : Fine r q) : Fine r (if c then p else q) := by split <;> assumption
theorem fine_need {r : Rdr} (hE : EndAt r) (sg : ByteArray) (hs : sg.size ≠ 0 := by decide) : Fine r (needM r sg) := fun i hi => by
 unfold needM
 by_cases hm : isMark r i sg = true
 ·rw [if_pos hm]
  have := hE.mark hi hm hs
  exact ⟨fun x j e => (by simp only [Except.ok.injEq, Prod.mk.injEq] at e; omega), fun k e => (by cases e)⟩
 ·rw [if_neg hm]
  exact ⟨fun x j e => (by cases e), fun k e => by simp only [Except.error.injEq] at e; omega⟩
theorem fine_took {r : Rdr} (hE : EndAt r) (sg : ByteArray) (hs : sg.size ≠ 0 := by decide) : Fine r (tookM r sg) := fun i hi => by
 unfold tookM
 by_cases hm : isMark r i sg = true
 ·rw [if_pos hm]
  have := hE.mark hi hm hs
  exact ⟨fun x j e => (by simp only [Except.ok.injEq, Prod.mk.injEq] at e; omega), fun k e => (by cases e)⟩
 ·rw [if_neg hm]
  exact ⟨fun x j e => (by simp only [Except.ok.injEq, Prod.mk.injEq] at e; omega), fun k e => (by cases e)⟩
theorem fine_name {r : Rdr} (hE : EndAt r) : Fine r (nameM r) := fun i hi => by
 unfold nameM
 by_cases hm : (r.L.getD i tok0).kind = 1
 ·rw [if_pos hm]
  have := hE i hi (.inl hm)
  exact ⟨fun x j e => (by simp only [Except.ok.injEq, Prod.mk.injEq] at e; omega), fun k e => (by cases e)⟩
 ·rw [if_neg hm]
  exact ⟨fun x j e => (by cases e), fun k e => by simp only [Except.error.injEq] at e; omega⟩
theorem fine_sign {r : Rdr} (hE : EndAt r) (V : List ByteArray) (hV : ∀ v ∈ V, v.size ≠ 0 := by decide) : Fine r (signM r V) := fun i hi => by
 unfold signM
 by_cases hm : hit (r.L.getD i tok0).text V = true
 ·rw [if_pos hm]
  have := hE i hi (.inr (hit_size hm hV))
  exact ⟨fun x j e => (by simp only [Except.ok.injEq, Prod.mk.injEq] at e; omega), fun k e => (by cases e)⟩
 ·rw [if_neg hm]
  exact ⟨fun x j e => (by simp only [Except.ok.injEq, Prod.mk.injEq] at e; omega), fun k e => (by cases e)⟩
theorem fine_list {r : Rdr} (hE : EndAt r) {sg : ByteArray} {part : PM Tree} (hp : Fine r part) (hs : sg.size ≠ 0) : ∀ f, Fine r (listP r sg part f)
 | 0 => fine_fail
 | f + 1 => fun i hi => by
  obtain ⟨h1, h2⟩ := hp i hi
  unfold listP
  cases hx : part i with
  | error k => exact ⟨fun x j e => (by cases e), fun k' e => by simp only [Except.error.injEq] at e; subst e; exact h2 k hx⟩
  | ok z =>
   obtain ⟨t, j⟩ := z
   obtain ⟨g1, g2⟩ := h1 t j hx
   show (∀ x m, (if isMark r j sg = true then _ else _) = _ → _) ∧ ∀ k, (if isMark r j sg = true then _ else _) = _ → _
   by_cases hm : isMark r j sg = true
   ·rw [if_pos hm]
    have hj := hE.mark g2 hm hs
    obtain ⟨h3, h4⟩ := fine_list hE hp hs f (j + 1) hj
    cases hl : listP r sg part f (j + 1) with
    | error k => exact ⟨fun x m e => (by cases e), fun k' e => by simp only [Except.error.injEq] at e; subst e; have := h4 k hl; omega⟩
    | ok y =>
     obtain ⟨us, m⟩ := y
     have := h3 us m hl
     exact ⟨fun x m' e => (by simp only [Except.ok.injEq, Prod.mk.injEq] at e; omega), fun k e => (by cases e)⟩
   ·rw [if_neg hm]
    exact ⟨fun x m e => (by simp only [Except.ok.injEq, Prod.mk.injEq] at e; omega), fun k e => (by cases e)⟩
theorem fine_upTo {r : Rdr} (hE : EndAt r) {en : ByteArray} {part : PM Tree} (hp : Fine r part) (hs : en.size ≠ 0 := by decide) : Fine r (upToP r en part) := fun i hi => by
 unfold upToP
 by_cases hm : isMark r i en = true
 ·rw [if_pos hm]
  have := hE.mark hi hm hs
  exact ⟨fun x j e => (by simp only [Except.ok.injEq, Prod.mk.injEq] at e; omega), fun k e => (by cases e)⟩
 ·rw [if_neg hm]
  obtain ⟨h1, h2⟩ := fine_list hE hp (by decide : (⟨#[44]⟩ : ByteArray).size ≠ 0) (r.L.length + 1) i hi
  cases hl : listP r ⟨#[44]⟩ part (r.L.length + 1) i with
  | error k => exact ⟨fun x j e => (by cases e), fun k' e => by simp only [Except.error.injEq] at e; subst e; exact h2 k hl⟩
  | ok y =>
   obtain ⟨us, m⟩ := y
   obtain ⟨g1, g2⟩ := h1 us m hl
   show (∀ x j, (if isMark r m en = true then _ else _) = _ → _) ∧ ∀ k, (if isMark r m en = true then _ else _) = _ → _
   by_cases hm : isMark r m en = true
   ·rw [if_pos hm]
    have := hE.mark g2 hm hs
    exact ⟨fun x j e => (by simp only [Except.ok.injEq, Prod.mk.injEq] at e; omega), fun k e => (by cases e)⟩
   ·rw [if_neg hm]
    exact ⟨fun x j e => (by cases e), fun k e => by simp only [Except.error.injEq] at e; omega⟩
theorem fine_take_at {r : Rdr} {i : Nat} (hi : i + 1 < r.L.length) {β : Type} {f : Lx.Tok → PM β} (hf : ∀ x, Fine r (f x)) : (∀ x j, bindM (takeM r) f i = .ok (x, j) → i ≤ j ∧ j < r.L.length) ∧ ∀ k, bindM (takeM r) f i = .error k → i ≤ k ∧ k < r.L.length := by
 obtain ⟨h1, h2⟩ := hf (r.L.getD i tok0) (i + 1) hi
 exact ⟨fun x j e => by have := h1 x j e; omega, fun k e => by have := h2 k e; omega⟩
theorem fine_chain {r : Rdr} (hE0 : EndAt r) {part : PM Tree} {V : List ByteArray} (hV : ∀ v ∈ V, v.size ≠ 0) (hp : Fine r part) : ∀ f t, Fine r (chainM r part V f t)
 | 0, t => fine_fail
 | f + 1, t => fine_bind (fine_sign hE0 V hV) fun sg => by { split; exact fine_pure _; exact fine_bind hp fun u => fine_chain hE0 hV hp f _ }
theorem fine_chainP {r : Rdr} (hE0 : EndAt r) {part : PM Tree} {V : List ByteArray} (hp : Fine r part) (hV : ∀ v ∈ V, v.size ≠ 0 := by decide) : Fine r (chainP r part V) := fine_bind hp fun t => fine_chain hE0 hV hp _ t
theorem fine_arguments {r : Rdr} (hE0 : EndAt r) {E : PM Tree} (hE : Fine r E) : Fine r (argumentsM r E) := fine_bind (fine_need hE0 _) fun _ => fine_upTo hE0 hE
theorem fine_named {r : Rdr} (hE0 : EndAt r) {E : PM Tree} (hE : Fine r E) : Fine r (namedM r E) := fine_bind (fine_here r) fun a => fine_bind (fine_name hE0) fun nm => fine_bind (fine_is r _) fun b => by
 split
 ·exact fine_bind (fine_arguments hE0 hE) fun l => fine_nd _ _ _ _
 ·exact fine_bind (fine_took hE0 _) fun c => by
   split
   ·exact fine_bind (fine_arguments hE0 hE) fun l => fine_nd _ _ _ _
   ·exact fine_nd _ _ _ _
theorem fine_construction {r : Rdr} (hE0 : EndAt r) {E : PM Tree} (hE : Fine r E) : Fine r (constructionM r E) := fine_bind (fine_here r) fun a => fine_bind (fine_need hE0 _) fun _ => fine_bind (fine_name hE0) fun nm => fine_bind (fine_arguments hE0 hE) fun l => fine_nd _ _ _ _
theorem fine_paren {r : Rdr} (hE0 : EndAt r) {E : PM Tree} (hE : Fine r E) : Fine r (parenM r E) := fine_bind (fine_need hE0 _) fun _ => fine_bind hE fun t => fine_bind (fine_need hE0 _) fun _ => fine_pure _
theorem fine_choice {r : Rdr} (hE0 : EndAt r) {E Bk : PM Tree} (hE : Fine r E) (hB : Fine r Bk) : Fine r (choiceM r E Bk) := fine_bind (fine_here r) fun a => fine_bind (fine_need hE0 _) fun _ => fine_bind hE fun c => fine_bind hB fun y => fine_bind (fine_need hE0 _) fun _ => fine_bind hB fun n => fine_nd _ _ _ _
theorem fine_store {r : Rdr} (hE0 : EndAt r) {E : PM Tree} (hE : Fine r E) (k a : Int) : Fine r (storeM r E k a) := fine_bind (fine_name hE0) fun nm => fine_bind (fine_need hE0 _) fun _ => fine_bind hE fun v => fine_bind (fine_need hE0 _) fun _ => fine_nd _ _ _ _
theorem fine_let {r : Rdr} (hE0 : EndAt r) {E : PM Tree} (hE : Fine r E) : Fine r (letM r E) := fine_bind (fine_here r) fun a => fine_bind (fine_need hE0 _) fun _ => fine_store hE0 hE _ _
theorem fine_assign {r : Rdr} (hE0 : EndAt r) {E : PM Tree} (hE : Fine r E) : Fine r (assignM r E) := fine_bind (fine_here r) fun a => fine_store hE0 hE _ _
theorem fine_while {r : Rdr} (hE0 : EndAt r) {E Bk : PM Tree} (hE : Fine r E) (hB : Fine r Bk) : Fine r (whileM r E Bk) := fine_bind (fine_here r) fun a => fine_bind (fine_need hE0 _) fun _ => fine_bind hE fun c => fine_bind hB fun b => fine_nd _ _ _ _
theorem fine_print {r : Rdr} (hE0 : EndAt r) {E : PM Tree} (hE : Fine r E) : Fine r (printM r E) := fine_bind (fine_here r) fun a => fine_bind (fine_need hE0 _) fun _ => fine_bind hE fun v => fine_bind (fine_need hE0 _) fun _ => fine_nd _ _ _ _
theorem fine_value {r : Rdr} (hE0 : EndAt r) {E : PM Tree} (hE : Fine r E) : Fine r (valueM r E) := fine_bind hE fun v => fine_bind (fine_is r _) fun b => by
 split
 ·exact fine_pure _
 ·exact fine_bind (fine_need hE0 _) fun _ => fine_nd _ _ _ _
theorem fine_stmt {r : Rdr} (hE0 : EndAt r) {E Bk : PM Tree} (hE : Fine r E) (hB : Fine r Bk) : Fine r (stmtM r E Bk) := fine_bind (fine_is r _) fun b1 => by
 split
 ·exact fine_let hE0 hE
 ·exact fine_bind (fine_is r _) fun b2 => by
   split
   ·exact fine_while hE0 hE hB
   ·exact fine_bind (fine_is r _) fun b3 => by
     split
     ·exact fine_print hE0 hE
     ·exact fine_bind (fine_tok r) fun x => by
       split
       ·exact fine_value hE0 hE
       ·exact fine_bind (fine_peek r) fun y => by
         split
         ·exact fine_assign hE0 hE
         ·exact fine_value hE0 hE
theorem fine_stmts {r : Rdr} (hE0 : EndAt r) {E Bk : PM Tree} (hE : Fine r E) (hB : Fine r Bk) : ∀ f l, Fine r (stmtsM r E Bk f l)
 | 0, l => fine_fail
 | f + 1, l => fine_bind (fine_is r _) fun b => by split; exact fine_pure _; exact fine_bind (fine_stmt hE0 hE hB) fun u => fine_stmts hE0 hE hB f _
theorem stmts_end {r : Rdr} {E Bk : PM Tree} : ∀ f l i us j, stmtsM r E Bk f l i = .ok (us, j) → isMark r j ⟨#[125]⟩ = true
 | 0, l, i, us, j, h => by cases h
 | f + 1, l, i, us, j, h => by
  have h' : bindM (isM r ⟨#[125]⟩) (fun b => match b with | true => pureM l | false => bindM (stmtM r E Bk) fun t => stmtsM r E Bk f (l ++ [t])) i = .ok (us, j) := h
  obtain ⟨b, j1, h1, h2⟩ := bindM_split h'
  obtain ⟨hb, hj⟩ := isM_eq h1
  cases b
  ·have h3 : bindM (stmtM r E Bk) (fun t => stmtsM r E Bk f (l ++ [t])) j1 = .ok (us, j) := h2
   obtain ⟨t, j2, h4, h5⟩ := bindM_split h3
   exact stmts_end f _ _ _ _ h5
  ·have h3 : Except.ok (l, j1) = Except.ok (us, j) := h2
   simp only [Except.ok.injEq, Prod.mk.injEq] at h3
   rw [← h3.2, hj]
   exact hb
theorem fine_block {r : Rdr} (hE0 : EndAt r) {E Bk : PM Tree} (hE : Fine r E) (hB : Fine r Bk) : Fine r (blockM r E Bk) := fine_bind (fine_here r) fun a => fine_bind (fine_need hE0 _) fun _ => fun i hi => by
 obtain ⟨h1, h2⟩ := fine_stmts hE0 hE hB (r.L.length + 1) [] i hi
 show (∀ x j, bindM (stmtsM r E Bk (r.L.length + 1) []) (blockK r a) i = .ok (x, j) → _) ∧ ∀ k, bindM (stmtsM r E Bk (r.L.length + 1) []) (blockK r a) i = .error k → _
 unfold bindM
 cases hx : stmtsM r E Bk (r.L.length + 1) [] i with
 | error k => exact ⟨fun x j e => (by cases e), fun k' e => by simp only [Except.error.injEq] at e; subst e; exact h2 k hx⟩
 | ok z =>
  obtain ⟨l, j⟩ := z
  obtain ⟨g1, g2⟩ := h1 l j hx
  have hm := stmts_end _ _ _ _ _ hx
  obtain ⟨h3, h4⟩ := fine_take_at (r := r) (hE0.mark g2 hm (by decide)) (f := fun x => ndM 30 ⟨#[]⟩ a (if noValue l = true then l ++ [.mk 31 ⟨#[]⟩ x.at_ []] else l)) (fun x => fine_nd _ _ _ _)
  exact ⟨fun y m e => by have := h3 y m e; omega, fun k e => by have := h4 k e; omega⟩
theorem fine_primary {r : Rdr} (hE0 : EndAt r) (hI0 : IntAt r) {E Bk : PM Tree} (hE : Fine r E) (hB : Fine r Bk) : Fine r (primaryM r E Bk) := fun i hi => by
 have key : ∀ (p : PM Tree), primaryM r E Bk i = p i → Fine r p → (∀ x j, primaryM r E Bk i = .ok (x, j) → i ≤ j ∧ j < r.L.length) ∧ ∀ k, primaryM r E Bk i = .error k → i ≤ k ∧ k < r.L.length := fun p e hp => by rw [e]; exact hp i hi
 have hun : primaryM r E Bk i = (if (r.L.getD i tok0).kind = 3 then bindM (takeM r) fun _ => ndM 20 (r.L.getD i tok0).text (r.L.getD i tok0).at_ []
  else if (r.L.getD i tok0).kind = 1 then namedM r E
  else if isB (r.L.getD i tok0).text ⟨#[116, 114, 117, 101]⟩ = true ∨ isB (r.L.getD i tok0).text ⟨#[102, 97, 108, 115, 101]⟩ = true then bindM (takeM r) fun _ => ndM 21 (r.L.getD i tok0).text (r.L.getD i tok0).at_ []
  else if isB (r.L.getD i tok0).text ⟨#[110, 101, 119]⟩ = true then constructionM r E
  else if isB (r.L.getD i tok0).text ⟨#[40]⟩ = true then parenM r E
  else if isB (r.L.getD i tok0).text ⟨#[105, 102]⟩ = true then choiceM r E Bk
  else if isB (r.L.getD i tok0).text ⟨#[123]⟩ = true then blockM r E Bk
  else failM) i := rfl
 by_cases h3 : (r.L.getD i tok0).kind = 3
 ·rw [if_pos h3] at hun
  rw [hun]
  exact fine_take_at (hI0 i hi h3) (fun x => fine_nd _ _ _ _)
 rw [if_neg h3] at hun
 by_cases h1 : (r.L.getD i tok0).kind = 1
 ·rw [if_pos h1] at hun
  exact key _ hun (fine_named hE0 hE)
 rw [if_neg h1] at hun
 by_cases h2 : isB (r.L.getD i tok0).text ⟨#[116, 114, 117, 101]⟩ = true ∨ isB (r.L.getD i tok0).text ⟨#[102, 97, 108, 115, 101]⟩ = true
 ·rw [if_pos h2] at hun
  rw [hun]
  refine fine_take_at (hE0 i hi (.inr ?_)) (fun x => fine_nd _ _ _ _)
  rcases h2 with h2 | h2
  ·exact isB_size h2 (by decide)
  ·exact isB_size h2 (by decide)
 rw [if_neg h2] at hun
 exact key _ hun (fine_if (fine_construction hE0 hE) (fine_if (fine_paren hE0 hE) (fine_if (fine_choice hE0 hE hB) (fine_if (fine_block hE0 hE hB) fine_fail))))
theorem fine_dots {r : Rdr} (hE0 : EndAt r) : ∀ f t, Fine r (dotsM r f t)
 | 0, t => fine_fail
 | f + 1, t => fine_bind (fine_took hE0 _) fun b => by split; exact fine_pure _; exact fine_bind (fine_name hE0) fun nm => fine_dots hE0 f _
theorem fine_post {r : Rdr} (hE0 : EndAt r) (hI0 : IntAt r) {E Bk : PM Tree} (hE : Fine r E) (hB : Fine r Bk) : Fine r (postM r E Bk) := fine_bind (fine_primary hE0 hI0 hE hB) fun t => fine_dots hE0 _ t
theorem fine_unary {r : Rdr} (hE0 : EndAt r) (hI0 : IntAt r) {E Bk U : PM Tree} (hE : Fine r E) (hB : Fine r Bk) (hU : Fine r U) : Fine r (unaryM r E Bk U) := fine_bind (fine_here r) fun a => fine_bind (fine_sign hE0 _) fun sg => by
 split
 ·exact fine_post hE0 hI0 hE hB
 ·exact fine_bind hU fun t => fine_nd _ _ _ _
theorem fine_rel {r : Rdr} (hE0 : EndAt r) (hI0 : IntAt r) {E Bk U : PM Tree} (hE : Fine r E) (hB : Fine r Bk) (hU : Fine r U) : Fine r (relM r E Bk U) := fine_bind (fine_chainP hE0 (fine_chainP hE0 (fine_unary hE0 hI0 hE hB hU))) fun t => fine_bind (fine_sign hE0 _) fun sg => by
 split
 ·exact fine_pure _
 ·exact fine_bind (fine_chainP hE0 (fine_chainP hE0 (fine_unary hE0 hI0 hE hB hU))) fun u => fine_pure _
theorem fine_expr {r : Rdr} (hE0 : EndAt r) (hI0 : IntAt r) {E Bk U : PM Tree} (hE : Fine r E) (hB : Fine r Bk) (hU : Fine r U) : Fine r (exprM r E Bk U) := fine_chainP hE0 (fine_chainP hE0 (fine_rel hE0 hI0 hE hB hU))
theorem fine_sub (r : Rdr) (hE0 : EndAt r) (hI0 : IntAt r) : ∀ d, Fine r (subL r d).E ∧ Fine r (subL r d).B ∧ Fine r (subL r d).U
 | 0 => ⟨fine_fail, fine_fail, fine_fail⟩
 | d + 1 => by
  obtain ⟨h1, h2, h3⟩ := fine_sub r hE0 hI0 d
  exact ⟨fine_expr hE0 hI0 h1 h2 h3, fine_block hE0 h1 h2, fine_unary hE0 hI0 h1 h2 h3⟩
end Go.Proofs.YtheigpiffdabnaaGreat
namespace Go.Proofs.YtheigpiffdabnaaGreat
open Go Go.RowKit
/-- what comes of a place stays among the tokens -/
def FineAt {α : Type} (r : Rdr) (i : Nat) (e : Except Nat (α × Nat)) : Prop := (∀ x j, e = .ok (x, j) → i ≤ j ∧ j < r.L.length) ∧ ∀ k, e = .error k → i ≤ k ∧ k < r.L.length
theorem FineAt.ok {α : Type} {r : Rdr} {i j : Nat} {x : α} (h : i ≤ j) (hj : j < r.L.length) : FineAt r i (.ok (x, j)) := ⟨fun y m e => (by simp only [Except.ok.injEq, Prod.mk.injEq] at e; omega), fun k e => (by cases e)⟩
theorem FineAt.err {α : Type} {r : Rdr} {i k : Nat} (h : i ≤ k) (hk : k < r.L.length) : FineAt r i (.error k : Except Nat (α × Nat)) := ⟨fun y m e => (by cases e), fun k e => (by simp only [Except.error.injEq] at e; omega)⟩
theorem FineAt.mono {α : Type} {r : Rdr} {i i' : Nat} {e : Except Nat (α × Nat)} (h : FineAt r i' e) (hi : i ≤ i') : FineAt r i e := ⟨fun x j q => (by have := h.1 x j q; omega), fun k q => (by have := h.2 k q; omega)⟩
theorem Fine.at_ {α : Type} {r : Rdr} {p : PM α} (h : Fine r p) {i : Nat} (hi : i < r.L.length) : FineAt r i (p i) := h i hi
theorem fine_nameP {r : Rdr} (hE : EndAt r) : Fine r (nameP r) := fun i hi => by
 show FineAt r i (nameP r i)
 unfold nameP
 by_cases hk : (r.L.getD i tok0).kind = 1
 ·rw [if_pos hk]; exact FineAt.ok (by omega) (hE i hi (.inl hk))
 ·rw [if_neg hk]; exact FineAt.err (Nat.le_refl _) hi
theorem fine_noParams {r : Rdr} : Fine r (noParamsP r) := fun i hi => FineAt.ok (Nat.le_refl _) hi
theorem fine_arg {r : Rdr} (hE : EndAt r) {T : PM Tree} (hT : Fine r T) : Fine r (argP r T) := fun i hi => by
 show FineAt r i (argP r T i)
 unfold argP
 by_cases hk : (r.L.getD i tok0).kind = 1
 ·rw [if_pos hk]
  have h1 := hE i hi (.inl hk)
  by_cases hm : isMark r (i + 1) ⟨#[58]⟩ = true
  ·rw [if_pos hm]
   have h2 := hE.mark h1 hm (by decide)
   have h3 := hT.at_ h2
   cases hx : T (i + 2) with
   | error k => rw [hx] at h3; exact FineAt.err (by have := h3.2 k rfl; omega) (h3.2 k rfl).2
   | ok z => obtain ⟨t, j⟩ := z; rw [hx] at h3; exact FineAt.ok (by have := h3.1 t j rfl; omega) (h3.1 t j rfl).2
  ·rw [if_neg hm]; exact FineAt.err (by omega) h1
 ·rw [if_neg hk]; exact FineAt.err (Nat.le_refl _) hi
theorem fine_result {r : Rdr} (hE : EndAt r) {T : PM Tree} (hT : Fine r T) : Fine r (resultP r T) := fun i hi => by
 show FineAt r i (resultP r T i)
 unfold resultP
 by_cases hm : isMark r i ⟨#[45, 62]⟩ = true
 ·rw [if_pos hm]; exact (hT.at_ (hE.mark hi hm (by decide))).mono (by omega)
 ·rw [if_neg hm]; exact FineAt.ok (Nat.le_refl _) hi
theorem fine_args {r : Rdr} (hE : EndAt r) {be en : ByteArray} {part : PM Tree} (hp : Fine r part) (hb : be.size ≠ 0 := by decide) (hs : en.size ≠ 0 := by decide) : Fine r (argsP r be en part) := fun i hi => by
 show FineAt r i (argsP r be en part i)
 unfold argsP
 by_cases hm : isMark r i be = true
 ·rw [if_pos hm]
  have h2 := hE.mark hi hm hb
  have h3 := (fine_upTo hE hp hs).at_ h2
  cases hx : upToP r en part (i + 1) with
  | error k => rw [hx] at h3; exact FineAt.err (by have := h3.2 k rfl; omega) (h3.2 k rfl).2
  | ok z => obtain ⟨t, j⟩ := z; rw [hx] at h3; exact FineAt.ok (by have := h3.1 t j rfl; omega) (h3.1 t j rfl).2
 ·rw [if_neg hm]; exact FineAt.err (Nat.le_refl _) hi
theorem fine_param {r : Rdr} (hE : EndAt r) : Fine r (paramP r) := fun i hi => by
 show FineAt r i (paramP r i)
 unfold paramP
 by_cases hk : (r.L.getD i tok0).kind = 1
 ·rw [if_pos hk]
  have h1 := hE i hi (.inl hk)
  by_cases hm : isMark r (i + 1) ⟨#[58]⟩ = true
  ·rw [if_pos hm]
   have h2 := hE.mark h1 hm (by decide)
   have h3 := (fine_nameP hE).at_ h2
   cases hx : nameP r (i + 2) with
   | error k => rw [hx] at h3; exact FineAt.err (by have := h3.2 k rfl; omega) (h3.2 k rfl).2
   | ok z => obtain ⟨t, j⟩ := z; rw [hx] at h3; exact FineAt.ok (by have := h3.1 t j rfl; omega) (h3.1 t j rfl).2
  ·rw [if_neg hm]; exact FineAt.ok (by omega) h1
 ·rw [if_neg hk]; exact FineAt.err (Nat.le_refl _) hi
theorem fine_params {r : Rdr} (hE : EndAt r) : Fine r (paramsP r) := fun i hi => by
 show FineAt r i (paramsP r i)
 unfold paramsP
 by_cases hm : isMark r i ⟨#[60]⟩ = true
 ·rw [if_pos hm]
  have h2 := hE.mark hi hm (by decide)
  have h3 := (fine_list hE (fine_param hE) (by decide : (⟨#[44]⟩ : ByteArray).size ≠ 0) (r.L.length + 1)).at_ h2
  cases hx : listP r ⟨#[44]⟩ (paramP r) (r.L.length + 1) (i + 1) with
  | error k => rw [hx] at h3; exact FineAt.err (by have := h3.2 k rfl; omega) (h3.2 k rfl).2
  | ok z =>
   obtain ⟨t, j⟩ := z
   rw [hx] at h3
   obtain ⟨g1, g2⟩ := h3.1 t j rfl
   show FineAt r i (if isMark r j ⟨#[62]⟩ = true then _ else _)
   by_cases hg : isMark r j ⟨#[62]⟩ = true
   ·rw [if_pos hg]; exact FineAt.ok (by omega) (hE.mark g2 hg (by decide))
   ·rw [if_neg hg]; exact FineAt.err (by omega) g2
 ·rw [if_neg hm]; exact fine_noParams.at_ hi
theorem fine_supers {r : Rdr} (hE : EndAt r) : Fine r (supersP r) := fun i hi => by
 show FineAt r i (supersP r i)
 unfold supersP
 by_cases hm : isMark r i ⟨#[58]⟩ = true
 ·rw [if_pos hm]
  have h2 := hE.mark hi hm (by decide)
  have h3 := (fine_list hE (fine_nameP hE) (by decide : (⟨#[43]⟩ : ByteArray).size ≠ 0) (r.L.length + 1)).at_ h2
  cases hx : listP r ⟨#[43]⟩ (nameP r) (r.L.length + 1) (i + 1) with
  | error k => rw [hx] at h3; exact FineAt.err (by have := h3.2 k rfl; omega) (h3.2 k rfl).2
  | ok z => obtain ⟨t, j⟩ := z; rw [hx] at h3; exact FineAt.ok (by have := h3.1 t j rfl; omega) (h3.1 t j rfl).2
 ·rw [if_neg hm]; exact FineAt.ok (Nat.le_refl _) hi
theorem fine_used {r : Rdr} (hE : EndAt r) (kd a : Int) : Fine r (usedP r kd a) := fun i hi => by
 show FineAt r i (usedP r kd a i)
 unfold usedP
 by_cases hm : isMark r i ⟨#[117, 115, 101]⟩ = true
 ·rw [if_pos hm]
  have h1 := hE.mark hi hm (by decide)
  by_cases hk : (r.L.getD (i + 1) tok0).kind = 1
  ·rw [if_pos hk]
   have h2 := hE _ h1 (.inl hk)
   by_cases hg : isMark r (i + 2) ⟨#[59]⟩ = true
   ·rw [if_pos hg]; exact FineAt.ok (by omega) (hE.mark h2 hg (by decide))
   ·rw [if_neg hg]; exact FineAt.err (by omega) h2
  ·rw [if_neg hk]; exact FineAt.err (by omega) h1
 ·rw [if_neg hm]; exact FineAt.err (Nat.le_refl _) hi
theorem fine_use {r : Rdr} (hE : EndAt r) : Fine r (useP r) := fun i hi => (fine_used hE 1 _).at_ hi
theorem fine_pubUse {r : Rdr} (hE : EndAt r) : Fine r (pubUseP r) := fun i hi => by
 show FineAt r i (pubUseP r i)
 unfold pubUseP
 by_cases hm : isMark r i ⟨#[112, 117, 98]⟩ = true
 ·rw [if_pos hm]; exact ((fine_used hE 2 _).at_ (hE.mark hi hm (by decide))).mono (by omega)
 ·rw [if_neg hm]; exact FineAt.err (Nat.le_refl _) hi
theorem fine_typ {r : Rdr} (hE : EndAt r) (s : Bool) : ∀ d, Fine r (typL r s d)
 | 0 => fine_fail
 | d + 1 => fun i hi => by
  show FineAt r i (typAt r s (typL r s d) i)
  unfold typAt
  by_cases h1 : hit (r.L.getD i tok0).text W3 = true
  ·rw [if_pos h1]; exact FineAt.ok (by omega) (hE i hi (.inr (hit_size h1 W3_full)))
  rw [if_neg h1]
  by_cases h2 : s = true ∧ isMark r i selfB = true
  ·rw [if_pos h2]; exact FineAt.ok (by omega) (hE.mark hi h2.2 (by decide))
  rw [if_neg h2]
  unfold typTail
  by_cases hk : (r.L.getD i tok0).kind = 1
  ·rw [if_pos hk]
   have h3 := hE i hi (.inl hk)
   by_cases hm : isMark r (i + 1) ⟨#[60]⟩ = true
   ·rw [if_pos hm]
    have h4 := hE.mark h3 hm (by decide)
    have h5 := (fine_list hE (fine_typ hE s d) (by decide : (⟨#[44]⟩ : ByteArray).size ≠ 0) (r.L.length + 1)).at_ h4
    cases hx : listP r ⟨#[44]⟩ (typL r s d) (r.L.length + 1) (i + 2) with
    | error k => rw [hx] at h5; exact FineAt.err (by have := h5.2 k rfl; omega) (h5.2 k rfl).2
    | ok z =>
     obtain ⟨t, j⟩ := z
     rw [hx] at h5
     obtain ⟨g1, g2⟩ := h5.1 t j rfl
     show FineAt r i (if isMark r j ⟨#[62]⟩ = true then _ else _)
     by_cases hg : isMark r j ⟨#[62]⟩ = true
     ·rw [if_pos hg]; exact FineAt.ok (by omega) (hE.mark g2 hg (by decide))
     ·rw [if_neg hg]; exact FineAt.err (by omega) g2
   ·rw [if_neg hm]; exact FineAt.ok (by omega) h3
  ·rw [if_neg hk]; exact FineAt.err (Nat.le_refl _) hi
theorem fine_all {r : Rdr} (hE : EndAt r) {en : ByteArray} {part : PM Tree} (hp : Fine r part) (hs : en.size ≠ 0) : ∀ f l, Fine r (allM r en part f l)
 | 0, l => fine_fail
 | f + 1, l => fine_bind (fine_took hE en hs) fun b => by { split; exact fine_pure _; exact fine_bind hp fun t => fine_all hE hp hs f _ }
theorem fine_allP {r : Rdr} (hE : EndAt r) {en : ByteArray} {part : PM Tree} (hp : Fine r part) (hs : en.size ≠ 0 := by decide) : Fine r (allP r en part) := fine_all hE hp hs _ _
theorem fine_constant {r : Rdr} (hE : EndAt r) {T E : PM Tree} (hT : Fine r T) (hX : Fine r E) : Fine r (constantM r T E) := fine_bind (fine_here r) fun a => fine_bind (fine_need hE _) fun _ => fine_bind (fine_name hE) fun nm => fine_bind (fine_need hE _) fun _ => fine_bind hT fun o => fine_bind (fine_need hE _) fun _ => fine_bind hX fun v => fine_bind (fine_need hE _) fun _ => fine_nd _ _ _ _
theorem fine_argsC {r : Rdr} (hE : EndAt r) {T : PM Tree} (hT : Fine r T) : Fine r (argsC r T) := fine_args hE (fine_arg hE hT)
theorem fine_function {r : Rdr} (hE : EndAt r) {Ps T Bk : PM Tree} (hP : Fine r Ps) (hT : Fine r T) (hB : Fine r Bk) : Fine r (functionM r Ps T Bk) := fine_bind (fine_here r) fun a => fine_bind (fine_need hE _) fun _ => fine_bind (fine_name hE) fun nm => fine_bind hP fun p => fine_bind (fine_argsC hE hT) fun q => fine_bind (fine_result hE hT) fun o => fine_bind hB fun b => fine_nd _ _ _ _
theorem fine_record {r : Rdr} (hE : EndAt r) {T : PM Tree} (hT : Fine r T) : Fine r (recordM r T) := fine_bind (fine_here r) fun a => fine_bind (fine_need hE _) fun _ => fine_bind (fine_name hE) fun nm => fine_bind (fine_params hE) fun p => fine_bind (fine_args hE (fine_arg hE hT)) fun q => fine_nd _ _ _ _
theorem fine_sig {r : Rdr} (hE : EndAt r) {T : PM Tree} (hT : Fine r T) : Fine r (sigM r T) := fine_bind (fine_here r) fun a => fine_bind (fine_need hE _) fun _ => fine_bind (fine_name hE) fun nm => fine_bind (fine_argsC hE hT) fun q => fine_bind (fine_result hE hT) fun o => fine_bind (fine_need hE _) fun _ => fine_nd _ _ _ _
theorem fine_trait {r : Rdr} (hE : EndAt r) {T : PM Tree} (hT : Fine r T) : Fine r (traitM r T) := fine_bind (fine_here r) fun a => fine_bind (fine_need hE _) fun _ => fine_bind (fine_name hE) fun nm => fine_bind (fine_supers hE) fun u => fine_bind (fine_need hE _) fun _ => fine_bind (fine_allP hE (fine_sig hE hT)) fun l => fine_nd _ _ _ _
theorem fine_impl {r : Rdr} (hE : EndAt r) {T Bk : PM Tree} (hT : Fine r T) (hB : Fine r Bk) : Fine r (implM r T Bk) := fine_bind (fine_here r) fun a => fine_bind (fine_need hE _) fun _ => fine_bind (fine_params hE) fun p => fine_bind (fine_name hE) fun nm => fine_bind (fine_need hE _) fun _ => fine_bind hT fun t => fine_bind (fine_need hE _) fun _ => fine_bind (fine_allP hE (fine_function hE fine_noParams hT hB)) fun l => fine_nd _ _ _ _
theorem fine_macro {r : Rdr} (hE : EndAt r) {E : PM Tree} (hX : Fine r E) : Fine r (macroM r E) := fine_bind (fine_here r) fun a => fine_bind (fine_need hE _) fun _ => fine_bind (fine_name hE) fun nm => fine_bind (fine_args hE (fine_nameP hE)) fun q => fine_bind (fine_need hE _) fun _ => fine_bind hX fun v => fine_bind (fine_need hE _) fun _ => fine_nd _ _ _ _
theorem fine_itemT {r : Rdr} (hE : EndAt r) (hI : IntAt r) : Fine r (itemT r) := by
 obtain ⟨h1, h2, h3⟩ := fine_sub r hE hI 60
 have t0 := fine_typ hE false 60
 have t1 := fine_typ hE true 60
 unfold itemT itemM
 exact fine_bind (fine_tok r) fun x => fine_if (fine_use hE) (fine_if (fine_pubUse hE) (fine_if (fine_constant hE t0 h1) (fine_if (fine_function hE (fine_params hE) t0 h2) (fine_if (fine_record hE t0) (fine_if (fine_trait hE t1) (fine_if (fine_impl hE t0 h2) (fine_if (fine_macro hE h1) fine_fail)))))))
-- an item goes on
theorem ups_used (r : Rdr) (kd a : Int) : UpS (usedP r kd a) := fun i t j e => by
 unfold usedP at e
 split at e
 ·split at e
  ·split at e
   ·simp only [Except.ok.injEq, Prod.mk.injEq] at e; omega
   ·cases e
  ·cases e
 ·cases e
theorem ups_pubUse (r : Rdr) : UpS (pubUseP r) := fun i t j e => by
 unfold pubUseP at e
 split at e
 ·have := ups_used r 2 _ _ _ _ e; omega
 ·cases e
theorem up_params {r : Rdr} : Up (paramsP r) := fun i t j e => by
 unfold paramsP at e
 split at e
 ·cases hx : listP r ⟨#[44]⟩ (paramP r) (r.L.length + 1) (i + 1) with
  | error k => rw [hx] at e; cases e
  | ok z =>
   obtain ⟨u, m⟩ := z
   rw [hx] at e
   have h2 := listP_mono (fun a t b h => paramP_mono a t b h) _ _ u m hx
   have e' : (if isMark r m ⟨#[62]⟩ = true then (Except.ok (Tree.mk 10 ⟨#[]⟩ (r.L.getD i tok0).at_ u, m + 1) : Except Nat (Tree × Nat)) else .error m) = .ok (t, j) := e
   split at e'
   ·simp only [Except.ok.injEq, Prod.mk.injEq] at e'; omega
   ·cases e'
 ·exact up_noParams r _ _ _ e
theorem up_supers {r : Rdr} : Up (supersP r) := fun i t j e => by
 unfold supersP at e
 split at e
 ·cases hx : listP r ⟨#[43]⟩ (nameP r) (r.L.length + 1) (i + 1) with
  | error k => rw [hx] at e; cases e
  | ok z =>
   obtain ⟨u, m⟩ := z
   rw [hx] at e
   simp only [Except.ok.injEq, Prod.mk.injEq] at e
   have h2 := listP_mono (fun a t b h => nameP_mono a t b h) _ _ u m hx
   omega
 ·simp only [Except.ok.injEq, Prod.mk.injEq] at e; omega
theorem ups_itemT (r : Rdr) : UpS (itemT r) := by
 obtain ⟨h1, h2, h3⟩ := ups_sub r 60
 have t0 : Up (typL r false 60) := typL_mono 60
 have t1 : Up (typL r true 60) := typL_mono 60
 have a0 : Up (argsC r (typL r false 60)) := up_args (up_arg t0)
 have a1 : Up (argsC r (typL r true 60)) := up_args (up_arg t1)
 unfold itemT itemM
 refine ups_bind2 (up_tok r) fun x => ups_if ?_ (ups_if ?_ (ups_if ?_ (ups_if ?_ (ups_if ?_ (ups_if ?_ (ups_if ?_ (ups_if ?_ ups_fail)))))))
 ·exact fun i t j e => ups_used r 1 _ i t j e
 ·exact ups_pubUse r
 ·exact ups_bind2 (up_here r) fun a => ups_bind (ups_need r _) fun _ => up_bind (ups_name r).up fun nm => up_bind (ups_need r _).up fun _ => up_bind t0 fun o => up_bind (ups_need r _).up fun _ => up_bind h1.up fun v => up_bind (ups_need r _).up fun _ => up_nd _ _ _ _
 ·exact ups_function r _ _ _ up_params a0 (up_result t0) h2.up
 ·exact ups_bind2 (up_here r) fun a => ups_bind (ups_need r _) fun _ => up_bind (ups_name r).up fun nm => up_bind up_params fun p => up_bind (up_args (up_arg t0)) fun q => up_nd _ _ _ _
 ·exact ups_bind2 (up_here r) fun a => ups_bind (ups_need r _) fun _ => up_bind (ups_name r).up fun nm => up_bind up_supers fun u => up_bind (ups_need r _).up fun _ => up_bind (up_all (ups_sig r _ a1 (up_result t1))) fun l => up_nd _ _ _ _
 ·exact ups_bind2 (up_here r) fun a => ups_bind (ups_need r _) fun _ => up_bind up_params fun p => up_bind (ups_name r).up fun nm => up_bind (ups_need r _).up fun _ => up_bind t0 fun t => up_bind (ups_need r _).up fun _ => up_bind (up_all (ups_function r _ _ _ (up_noParams r) a0 (up_result t0) h2.up)) fun l => up_nd _ _ _ _
 ·exact ups_bind2 (up_here r) fun a => ups_bind (ups_need r _) fun _ => up_bind (ups_name r).up fun nm => up_bind (up_args (fun a t b h => nameP_mono a t b h)) fun q => up_bind (ups_need r _).up fun _ => up_bind h1.up fun v => up_bind (ups_need r _).up fun _ => up_nd _ _ _ _
theorem paramsP_core (r : Rdr) : paramsP r = paramsP (core r.L) := by
 funext i
 unfold paramsP
 rw [listP_core]
 rfl
theorem supersP_core (r : Rdr) : supersP r = supersP (core r.L) := by
 funext i
 unfold supersP
 rw [listP_core]
 rfl
theorem argsC_core (r : Rdr) (T : PM Tree) : argsC r T = argsC (core r.L) T := by unfold argsC; rw [argsP_core]; rfl
theorem functionM_core (r : Rdr) (Ps T Bk : PM Tree) : functionM r Ps T Bk = functionM (core r.L) Ps T Bk := by unfold functionM; rw [argsC_core]; rfl
theorem sigM_core (r : Rdr) (T : PM Tree) : sigM r T = sigM (core r.L) T := by unfold sigM; rw [argsC_core]; rfl
theorem recordM_core (r : Rdr) (T : PM Tree) : recordM r T = recordM (core r.L) T := by unfold recordM; rw [paramsP_core, argsP_core]; rfl
theorem allM_core (r : Rdr) (en : ByteArray) (part : PM Tree) : ∀ f, allM r en part f = allM (core r.L) en part f
 | 0 => rfl
 | f + 1 => by
  funext l
  unfold allM
  rw [allM_core r en part f]
  rfl
theorem allP_core (r : Rdr) (en : ByteArray) (part : PM Tree) : allP r en part = allP (core r.L) en part := by unfold allP; rw [allM_core]; rfl
theorem constantM_core (r : Rdr) (T E : PM Tree) : constantM r T E = constantM (core r.L) T E := rfl
theorem traitM_core (r : Rdr) (T : PM Tree) : traitM r T = traitM (core r.L) T := by unfold traitM; rw [supersP_core, sigM_core, allP_core]; rfl
theorem implM_core (r : Rdr) (T Bk : PM Tree) : implM r T Bk = implM (core r.L) T Bk := by unfold implM; rw [paramsP_core, functionM_core, allP_core]; rfl
theorem macroM_core (r : Rdr) (E : PM Tree) : macroM r E = macroM (core r.L) E := by unfold macroM; rw [argsP_core]; rfl
theorem functionP_core (r : Rdr) (T Bk : PM Tree) : functionM r (paramsP r) T Bk = functionM (core r.L) (paramsP (core r.L)) T Bk := by rw [functionM_core, paramsP_core]
theorem use_core (r : Rdr) : useP r = useP (core r.L) := rfl
theorem pubUse_core (r : Rdr) : pubUseP r = pubUseP (core r.L) := rfl
theorem itemM_core (r : Rdr) (T T1 E Bk : PM Tree) : itemM r T T1 E Bk = itemM (core r.L) T T1 E Bk := by
 unfold itemM
 rw [use_core, pubUse_core, constantM_core, functionP_core, recordM_core, traitM_core, implM_core, macroM_core]
 rfl
theorem itemT_core (r : Rdr) : itemT r = itemT (core r.L) := by
 unfold itemT
 rw [itemM_core, typL_core r false, typL_core r true, subL_core r]
end Go.Proofs.YtheigpiffdabnaaGreat
namespace Go.Proofs.YtheigpiffdabnaaGreat
open Go Go.RowKit
def intE : Enc Int where
 cells := fun k => [.int .i64 k]
 size := 1
 len := fun _ => rfl
 one := fun x v hv => by
  simp only [List.mem_cons, List.not_mem_nil, or_false] at hv
  subst hv
  rfl
 pos := by decide
theorem infoInt : (Tryz.prog.info? 3).map (fun i => (i.zero, i.size, i.bytes)) = some (some (.int .i64 0), intE.size, 8) := by kernel_rfl
theorem OwnL.lt {α : Type} {E : Enc α} {t : TypeId} {w : World} {B : Nat} {v : Value} {L : List α} (h : OwnL E t w B v L) : ∀ g, v.ownBlock = some g → B ≤ g ∧ g < w.heap.size := by
 intro g e
 obtain ⟨_, ⟨hv, _⟩ | ⟨g', cap, cur, hv, hg, hh, _⟩⟩ := h
 ·rw [hv] at e; simp [Value.ownBlock] at e
 ·rw [hv] at e
  simp [Value.ownBlock] at e
  subst e
  exact ⟨hg, lt_heap hh⟩
theorem OwnL.keep {α : Type} {E : Enc α} {t : TypeId} {w w' : World} {B : Nat} {v : Value} {L : List α} (h : OwnL E t w B v L) (hk : ∀ g, v.ownBlock = some g → w'.heap[g]? = w.heap[g]?) : OwnL E t w' B v L := by
 obtain ⟨h1, h2 | ⟨g, cap, cur, hv, hg, hh, rest⟩⟩ := h
 ·exact ⟨h1, .inl h2⟩
 ·exact ⟨h1, .inr ⟨g, cap, cur, hv, hg, by rw [hk g (by rw [hv]; rfl)]; exact hh, rest⟩⟩
/-- items and errors in lists of one's own, apart from each other -/
structure ModS (w : World) (v5 v6 : Value) (ts : List Tree) (es : List Int) (W : World) : Prop where
 be : Below w.heap.size w W
 nodes : ∃ R : List Raw, OwnL rawEnc 37 W w.heap.size v5 R ∧ R.length = ts.length ∧ ∀ i (h1 : i < R.length) (h2 : i < ts.length), IsT (fun b => w.heap.size ≤ b ∧ v5.ownBlock ≠ some b ∧ v6.ownBlock ≠ some b) W R[i] ts[i]
 errs : OwnL intE 3 W w.heap.size v6 es
 apart : ∀ g, v5.ownBlock = some g → v6.ownBlock ≠ some g
theorem ModS.on {w : World} {v5 v6 : Value} {ts : List Tree} {es : List Int} {W W' : World} (h : ModS w v5 v6 ts es W) (hb : Below W.heap.size W W') : ModS w v5 v6 ts es W' := by
 obtain ⟨R, ho, hl, ht⟩ := h.nodes
 exact ⟨h.be.trans (hb.mono h.be.size), ⟨R, ho.below hb, hl, fun i a b => (ht i a b).later hb⟩, h.errs.below hb, h.apart⟩
theorem ModS.start (w : World) : ModS w (.slice none 0 0) (.slice none 0 0) [] [] w := ⟨Below.refl _ _, ⟨[], OwnL.isNil _ _ _ _, rfl, fun i h => absurd h (by simp)⟩, OwnL.isNil _ _ _ _, fun g e => by simp [Value.ownBlock] at e⟩
theorem wpList_modN {W : World} {ops : Array Oper} {rest : List Oper} {o : Oper} {act : Act} {Q : Exit → Act → World → Prop} (hgd : o.guard = none) (s x : Operand)
  (ho : o.op = .call { callee := .builtin .append, args := #[s, x], argTypes := #[31, 31] })
  {w w0 : World} {v5 v6 : Value} {ts : List Tree} {es : List Int} {q : Raw} {t : Tree} (h : ModS w v5 v6 ts es w0) (ht : IsT (fun b => w.heap.size ≤ b ∧ v5.ownBlock ≠ some b ∧ v6.ownBlock ≠ some b) w0 q t) (hl : ts.length ≤ 100000)
  (hw : w0.alloc (.cells (ndC q) 37) = W) (hs : act.eval s = v5) (hx : act.eval x = .slice (some ⟨w0.heap.size, 0, none⟩) 1 1)
  (hk : ∀ v' w', ModS w v' v6 (ts ++ [t]) es w' → wpList Tryz.prog ops Q rest (act.put o.dst v') w') : wpList Tryz.prog ops Q (o :: rest) act W := by
 have h' : ModS w v5 v6 ts es W := by rw [← hw]; exact h.on (boxB w0 _)
 have ht' : IsT (fun b => w.heap.size ≤ b ∧ v5.ownBlock ≠ some b ∧ v6.ownBlock ≠ some b) W q t := by rw [← hw]; exact ht.later (boxB w0 _)
 have hnew := heap_alloc_new w0 (.cells (ndC q) 37 (0, 0))
 rw [hw] at hnew
 obtain ⟨i0, hi, hz0, hz1, hz2⟩ := info_parts infoTree
 obtain ⟨R, hown, hRl, hT⟩ := h'.nodes
 have cell : ∀ j u, (rawEnc.cells q)[j]? = some u → W.cell? ⟨w0.heap.size, j, none⟩ = some u := by
  intro j u hu
  rw [Lib.cell_of_heap hnew, ← hu, ← Array.getElem?_toList]
  rfl
 refine wpList_append_own_at W hgd s x 31 ho w.heap.size 37 i0 _ 4 56 Tryz.underlying31 hi hz0 hz1 hz2 rfl (by decide) v5 R.length (rawEnc.all R) hs hown ⟨w0.heap.size, 0, none⟩ 1 1 (rawEnc.cells q) hx rfl (fun j u hu => by rw [add_lit, Nat.zero_add]; exact cell j u hu) (rawEnc.one q) (by unfold maxLen; omega) (by omega) h'.be.size ?_
 intro v' w' g1 g2 _ g4
 have hbut : Same (fun a => v5.ownBlock = some a.block) W w' := fun a u hc hM => by
  rw [World.cell?_of_block (g2.block a.block (World.block_lt_of_cell? W _ hc) (fun e => hM e.symm))]
  exact hc
 have keep : ∀ {qq : Raw} {tt : Tree}, IsT (fun b => w.heap.size ≤ b ∧ v5.ownBlock ≠ some b ∧ v6.ownBlock ≠ some b) W qq tt → IsT (fun b => w.heap.size ≤ b ∧ v'.ownBlock ≠ some b ∧ v6.ownBlock ≠ some b) w' qq tt := by
  intro qq tt h
  refine (h.old.same hbut (fun a e q => q.1.2.1 e)).mono (fun b hb => ⟨hb.1.1, fun e => ?_, hb.1.2.2⟩)
  rcases g4 with g4 | g4
  ·rw [g4] at e; exact hb.1.2.1 e
  ·rw [g4] at e
   have h3 : W.heap.size = b := by simpa using e
   have := hb.2
   omega
 refine hk v' w' ⟨h'.be.grown g2 h'.be.size (fun g e => (hown.lt g e).1), ⟨R ++ [q], ?_, by simp [hRl], fun j h1 h2 => ?_⟩, h'.errs.keep (fun g e => g2.block g (h'.errs.lt g e).2 (fun e2 => h'.apart g e2.symm e)), fun g e => ?_⟩
 ·unfold OwnL
  rw [List.length_append, rawEnc.all_append, rawEnc.all_cons, rawEnc.all_nil, List.append_nil]
  exact g1
 ·by_cases hj : j < R.length
  ·rw [List.getElem_append_left hj, List.getElem_append_left (by omega)]
   exact keep (hT j hj (by omega))
  ·have e1 : (R ++ [q])[j] = q := by rw [List.getElem_append_right (by omega)]; simp
   have e2 : (ts ++ [t])[j] = t := by rw [List.getElem_append_right (by omega)]; simp
   rw [e1, e2]
   exact keep ht'
 ·rcases g4 with g4 | g4
  ·rw [g4] at e; exact h'.apart g e
  ·rw [g4] at e
   have h3 : W.heap.size = g := by simpa using e
   intro e6
   have := (h'.errs.lt g e6).2
   omega
theorem wpList_modE {W : World} {ops : Array Oper} {rest : List Oper} {o : Oper} {act : Act} {Q : Exit → Act → World → Prop} (hgd : o.guard = none) (s x : Operand)
  (ho : o.op = .call { callee := .builtin .append, args := #[s, x], argTypes := #[22, 22] })
  {w w0 : World} {v5 v6 : Value} {ts : List Tree} {es : List Int} {k : Int} (h : ModS w v5 v6 ts es w0) (hl : es.length ≤ 100000)
  (hw : w0.alloc (.cells #[.int .i64 k] 3) = W) (hs : act.eval s = v6) (hx : act.eval x = .slice (some ⟨w0.heap.size, 0, none⟩) 1 1)
  (hk : ∀ v' w', ModS w v5 v' ts (es ++ [k]) w' → wpList Tryz.prog ops Q rest (act.put o.dst v') w') : wpList Tryz.prog ops Q (o :: rest) act W := by
 have h' : ModS w v5 v6 ts es W := by rw [← hw]; exact h.on (boxB w0 _)
 have hnew := heap_alloc_new w0 (.cells #[.int .i64 k] 3 (0, 0))
 rw [hw] at hnew
 obtain ⟨i0, hi, hz0, hz1, hz2⟩ := info_parts infoInt
 obtain ⟨R, hown, hRl, hT⟩ := h'.nodes
 have cell : ∀ j u, (intE.cells k)[j]? = some u → W.cell? ⟨w0.heap.size, j, none⟩ = some u := by
  intro j u hu
  rw [Lib.cell_of_heap hnew, ← hu, ← Array.getElem?_toList]
  rfl
 refine wpList_append_own_at W hgd s x 22 ho w.heap.size 3 i0 _ 1 8 Tryz.underlying22 hi hz0 hz1 hz2 rfl (by decide) v6 es.length (intE.all es) hs h'.errs ⟨w0.heap.size, 0, none⟩ 1 1 (intE.cells k) hx rfl (fun j u hu => by rw [add_lit, Nat.zero_add]; exact cell j u hu) (intE.one k) (by unfold maxLen; omega) (by omega) h'.be.size ?_
 intro v' w' g1 g2 _ g4
 have hbut : Same (fun a => v6.ownBlock = some a.block) W w' := fun a u hc hM => by
  rw [World.cell?_of_block (g2.block a.block (World.block_lt_of_cell? W _ hc) (fun e => hM e.symm))]
  exact hc
 refine hk v' w' ⟨h'.be.grown g2 h'.be.size (fun g e => (h'.errs.lt g e).1), ⟨R, hown.keep (fun g e => g2.block g (hown.lt g e).2 (fun e2 => h'.apart g e e2.symm)), hRl, fun j h1 h2 => ?_⟩, ?_, fun g e => ?_⟩
 ·refine ((hT j h1 h2).old.same hbut (fun a e q => q.1.2.2 e)).mono (fun b hb => ⟨hb.1.1, hb.1.2.1, fun e => ?_⟩)
  rcases g4 with g4 | g4
  ·rw [g4] at e; exact hb.1.2.2 e
  ·rw [g4] at e
   have h3 : W.heap.size = b := by simpa using e
   have := hb.2
   omega
 ·unfold OwnL
  rw [List.length_append, intE.all_append, intE.all_cons, intE.all_nil, List.append_nil]
  exact g1
 ·rcases g4 with g4 | g4
  ·rw [g4]; exact h'.apart g e
  ·rw [g4]
   intro e6
   have h3 : W.heap.size = g := by simpa using e6
   have := (hown.lt g e).2
   omega
/-- the items and the errors of tokens -/
def modM (L : List Lx.Tok) (p : PM Tree) : Nat → Nat → List Tree → List Int → Option (List Tree × List Int)
 | 0, _, _, _ => none
 | f + 1, k, ts, es => if (L.getD k tok0).kind = 0 then some (ts, es) else match p k with
  | .ok (t, j) => modM L p f j (ts ++ [t]) es
  | .error j => modM L p f (resP L k (L.length + 1) j) ts (es ++ [(L.getD j tok0).at_])
def modV (L : List Lx.Tok) (p : PM Tree) : Option (List Tree × List Int) := if L.length = 0 then some ([], [0]) else modM L p (L.length + 1) 0 [] []
def ModPost (x : Option (List Tree × List Int)) (w : World) (e : Ending) (w' : World) : Prop :=
 match x with
 | some (ts, es) => ∃ v5 v6, e = .returned (.tuple #[v5, v6]) ∧ IsTs (fun b => w.heap.size ≤ b) w' v5 ts ∧ SlIs intE w' v6 es ∧ Below w.heap.size w w'
 | none => False
theorem resP_ge {L : List Lx.Tok} {first : Nat} : ∀ f k, k ≤ resP L first f k
 | 0, k => Nat.le_refl _
 | f + 1, k => by
  unfold resP
  split
  ·exact Nat.le_refl _
  ·split
   ·have := resP_ge (L := L) (first := first) f (k + 1); omega
   ·exact Nat.le_refl _
theorem resP_gt {L : List Lx.Tok} {first k : Nat} (h : first ≤ k) (hk : (L.getD first tok0).kind ≠ 0) : first < resP L first (L.length + 1) k := by
 by_cases e : k = first
 ·subst e
  unfold resP
  rw [if_neg hk, if_pos (.inl rfl)]
  have := resP_ge (L := L) (first := k) L.length (k + 1)
  omega
 ·have := resP_ge (L := L) (first := first) (L.length + 1) k
  omega
end Go.Proofs.YtheigpiffdabnaaGreat
namespace Go.Proofs.YtheigpiffdabnaaGreat
open Go Go.RowKit
theorem results_module {tmps : Array Value} {w : World} {v0 v1 : Value} (h0 : tmps.getD 2 undef = v0) (h1 : tmps.getD 3 undef = v1) : (results Tryz.f8 tmps).run Tryz.prog w = .ok (.tuple #[v0, v1]) w := by
 have e0 : tmps[2]?.getD undef = v0 := by simpa using h0
 have e1 : tmps[3]?.getD undef = v1 := by simpa using h1
 simp [results, Tryz.results8, e0, e1]
/-- what stands at each round of the module's loop -/
structure ModI (L : List Lx.Tok) (X : Option (List Tree × List Int)) (w2 : World) (k f : Nat) (ts : List Tree) (es : List Int) (v5 v6 : Value) (W : World) : Prop where
 st : ModS w2 v5 v6 ts es W
 fuel : L.length ≤ f + k
 few : ts.length ≤ k ∧ es.length ≤ k
 eq : modM L (itemT (core L)) f k ts es = X
set_option maxRecDepth 100000 in
set_option maxHeartbeats 2000000 in
theorem Module_any (s : ByteArray) (L : List Lx.Tok) (w : World) (hT : L = [] ∨ Toks L)
  (HTOK : ∀ w, Calls Tryz.prog 18 #[.string s] w fun e w' => ∃ v, e = .returned v ∧ SlIs tokEnc w' v L ∧ Below w.heap.size w w') :
  Calls Tryz.prog 8 #[.string s] w (ModPost (modV L (itemT (core L))) w) := by
 generalize hXX : modV L (itemT (core L)) = X
 have HX := Lib.hid hXX
 have HTT := Lib.hid hT
 have HTO := Lib.hid HTOK
 clear hT HTOK hXX
 go_enter Tryz.func8, Tryz.ntmps8
 go_wp2_with fail
 refine (HTO.out w).mono ?_
 rintro e w2 ⟨v, rfl, hsl, hb⟩
 obtain ⟨tp, cap, rfl, hlc, hcm, hlies⟩ := hsl
 have HB2 := Lib.hid hb
 have HSL : Hid (SlIs tokEnc w2 (.slice tp L.length cap) L) := ⟨tp, cap, rfl, hlc, hcm, hlies⟩
 have HLI := Lib.hid hlies
 clear hb hlc hcm hlies HTO
 by_cases h0 : L.length = 0
 ·have hX := HX.out
  unfold modV at hX
  rw [if_pos h0] at hX
  clear HX
  subst hX
  have h0i : ((L.length : Nat) : Int) = 0 := by omega
  have HZ : Hid (SlIs intE (w2.alloc (.cells #[.int .i64 0] 3)) (.slice (some ⟨w2.heap.size, 0, none⟩) 1 1) [0]) := ⟨_, 1, rfl, by simp, by decide, fun _ => ⟨w2.heap.size, 0, rfl, fun j v hv => by
   rw [Lib.cell_of_heap (heap_alloc_new w2 _), Nat.zero_add, ← hv, ← Array.getElem?_toList]
   rfl⟩⟩
  clear HSL HLI
  go_wp2_with fail
  exact bodyPost_ret (results_module rfl rfl) rfl ⟨_, _, rfl, IsTs.isNil _ _, HZ.out, HB2.out.trans ((boxB w2 _).mono HB2.out.size)⟩
 ·have hTk : Toks L := by
   rcases HTT.out with h | h
   ·rw [h] at h0; exact absurd rfl h0
   ·exact h
  have HTK := Lib.hid hTk
  have h0i : ¬ ((L.length : Nat) : Int) = 0 := by omega
  have h0b : (((L.length : Nat) : Int) == 0) = false := by simpa using h0i
  have hpos : 0 < L.length := by omega
  obtain ⟨b, off, rfl, hcl⟩ := HLI.out hpos
  have hbl : b < w2.heap.size := World.block_lt_of_cell? w2 _ (hcl.elem 0 hpos 0 (by decide) _ rfl)
  have HCL := Lib.hid hcl
  have HBL := Lib.hid hbl
  have hX0 : modM L (itemT (core L)) (L.length + 1) 0 [] [] = X := by have h := HX.out; unfold modV at h; rw [if_neg h0] at h; exact h
  have HI2 : Hid (ModI L X w2 0 (L.length + 1) [] [] (.slice none 0 0) (.slice none 0 0) w2) := ⟨ModS.start w2, by omega, ⟨Nat.le_refl _, Nat.le_refl _⟩, hX0⟩
  have hfew := hTk.few
  have hE : EndAt (core L) := Toks.endAt (r := core L) hTk
  have hIn : IntAt (core L) := Toks.intAt (r := core L) hTk
  have HFI := Lib.hid (fine_itemT hE hIn)
  have HUP := Lib.hid (ups_itemT (core L))
  clear hTk hcl hbl HLI HX hX0 hE hIn
  go_wp2_with fail
  go_loopw [5, 6, 7] (fun v5 v6 v7 wr => ∃ (k f : Nat) (ts : List Tree) (es : List Int), v7 = .int .i64 (k : Int) ∧ k < L.length ∧ Hid (ModI L X w2 k f ts es v5 v6 wr)) (fun _ _ v7 _ => L.length - (intOf v7).toNat)
  case atStart => exact ⟨0, L.length + 1, [], [], rfl, hpos, HI2.out⟩
  case round =>
   obtain ⟨k, f, ts, es, rfl, hk, HI⟩ := hrel
   clear HI2
   have hf := HI.out.fuel
   obtain ⟨hfew5, hfew6⟩ := HI.out.few
   obtain ⟨f', rfl⟩ : ∃ f', f = f' + 1 := ⟨f - 1, by omega⟩
   have HCW : Hid (CellsAt wr b off (tokEnc.all L)) := HCL.out.below HI.out.st.be
   have hc0 := (tok_cells HCW.out k hk).1
   have hki : ((k : Nat) : Int) < ((L.length : Nat) : Int) := by omega
   have heq : (if (L.getD k tok0).kind = 0 then some (ts, es) else match itemT (core L) k with
    | .ok (t, j) => modM L (itemT (core L)) f' j (ts ++ [t]) es
    | .error j => modM L (itemT (core L)) f' (resP L k (L.length + 1) j) ts (es ++ [(L.getD j tok0).at_])) = X := HI.out.eq
   by_cases hkd : (L.getD k tok0).kind = 0
   ·rw [if_pos hkd] at heq
    subst heq
    rw [hkd] at hc0
    obtain ⟨R, ho, hRl, hRt⟩ := HI.out.st.nodes
    have HOUT : Hid (IsTs (fun b => w.heap.size ≤ b) wr u5 ts ∧ SlIs intE wr u6 es ∧ Below w.heap.size w wr) := by
     refine ⟨?_, HI.out.st.errs.sl, HB2.out.trans (HI.out.st.be.mono HB2.out.size)⟩
     have hn : Nodes w2.heap.size wr u5 ts := ⟨R, ho, hRl, fun i a c => (hRt i a c).mono (fun b hb => ⟨hb.1, hb.2.1⟩)⟩
     exact hn.list.mono (fun b hb => Nat.le_trans HB2.out.size hb)
    clear ho hRl hRt hkd
    go_wp2_with fail
    exact bodyPost_ret (results_module rfl rfl) rfl ⟨_, _, rfl, HOUT.out⟩
   ·rw [if_neg hkd] at heq
    have HEQ := Lib.hid heq
    have HKD := Lib.hid hkd
    have hkb : ((L.getD k tok0).kind == 0) = false := by simpa using hkd
    have hSLr : SlIs tokEnc wr (.slice (some ⟨b, off, none⟩) L.length cap) L := HSL.out.below HI.out.st.be
    have HREAD := Lib.hid (read_any (some ⟨b, off, none⟩) cap k L 20 (itemT (core L) k) wr hSLr (fun b' o e => by simp only [Option.some.injEq] at e; injection e with e1 _ _; subst e1; exact Nat.lt_of_lt_of_le HBL.out HI.out.st.be.size) hk hfew (fun args w => by kernel_rfl) (fun w3 h3 => by
     have hh := item_top ⟨wr.heap.size + 1 + 1, some ⟨b, off, none⟩, cap, L⟩ HTK.out k w3 h3
     rw [itemT_core] at hh
     exact hh))
    obtain ⟨hfo, hfe⟩ := HFI.out k (show k < (core L).L.length from hk)
    have HFO := Lib.hid hfo
    have HFE := Lib.hid hfe
    generalize (L.getD k tok0).kind = kd at hc0 hkb hkd
    clear hfo hfe heq hSLr
    go_wp2_with fail
    refine HREAD.out.mono ?_
    intro e w4 hp
    match hx : itemT (core L) k, hp with
    | .ok (t, j), hp =>
     obtain ⟨q, rfl, ht, hj, hb⟩ := hp
     have hj' : j < L.length := hj
     have hkj : k < j := HUP.out _ _ _ hx
     have hXn : modM L (itemT (core L)) f' j (ts ++ [t]) es = X := by have h := HEQ.out; rw [hx] at h; exact h
     have hS5 : ModS w2 u5 u6 ts es (w4.alloc (.cells #[.int .i64 q.kind, .string q.text, .int .i64 q.at_, .slice q.p q.n q.cap] 37)) := (HI.out.st.on hb).on (boxB w4 _)
     have HS5 := Lib.hid hS5
     have HT5 : Hid (IsT (fun b => w2.heap.size ≤ b ∧ u5.ownBlock ≠ some b ∧ u6.ownBlock ≠ some b) (w4.alloc (.cells #[.int .i64 q.kind, .string q.text, .int .i64 q.at_, .slice q.p q.n q.cap] 37)) q t) := by
      refine (ht.later (boxB w4 _)).mono (fun b hb => ⟨Nat.le_trans HI.out.st.be.size hb, fun e => ?_, fun e => ?_⟩)
      ·obtain ⟨R, ho, _, _⟩ := HI.out.st.nodes
       have := (ho.lt b e).2
       omega
      ·have := (HI.out.st.errs.lt b e).2
       omega
     have HXN := Lib.hid hXn
     have HSZ : Hid ((w4.alloc (.cells #[.int .i64 q.kind, .string q.text, .int .i64 q.at_, .slice q.p q.n q.cap] 37)).heap.size = w4.heap.size + 1) := by show _ = _; simp
     clear ht hb hp hS5 hXn HREAD HEQ hx hj
     unfold ndC
     go_wp2_with (at_builtin; go_must (refine wpList_modN (o := ⟨some 34, _, _, _, _, _⟩) rfl (.tmp 31) (.tmp 33) rfl HS5.out HT5.out (by omega) rfl rfl (by rw [HSZ.out]; rfl) ?_; intro v' w6 hs6; have HS6 := Lib.hid hs6; clear hs6))
     go_roundw
     case rel => exact ⟨j, f', ts ++ [t], es, rfl, hj', ⟨HS6.out, by omega, ⟨by simp; omega, by omega⟩, HXN.out⟩⟩
     case measure => simp [intOf]; omega
    | .error j, hp =>
     obtain ⟨rfl, hb⟩ := hp
     obtain ⟨hkj, hj⟩ := HFE.out j hx
     have hj' : j < L.length := hj
     have hji : ((j : Nat) : Int) < ((L.length : Nat) : Int) := by omega
     have hXn : modM L (itemT (core L)) f' (resP L k (L.length + 1) j) ts (es ++ [(L.getD j tok0).at_]) = X := by have h := HEQ.out; rw [hx] at h; exact h
     have HXN := Lib.hid hXn
     have HGT : Hid (k < resP L k (L.length + 1) j) := resP_gt hkj HKD.out
     have HS5 := Lib.hid ((HI.out.st.on hb).on (boxB w4 (.cells #[.int .i64 0, .string ⟨#[]⟩, .int .i64 0, .slice none 0 0] 37)))
     have HC5 : Hid (CellsAt (w4.alloc (.cells #[.int .i64 0, .string ⟨#[]⟩, .int .i64 0, .slice none 0 0] 37)) b off (tokEnc.all L)) := (HCW.out.below hb).below (boxB w4 _)
     have HSL5 : Hid (SlIs tokEnc (w4.alloc (.cells #[.int .i64 0, .string ⟨#[]⟩, .int .i64 0, .slice none 0 0] 37)) (.slice (some ⟨b, off, none⟩) L.length cap) L) := ((HSL.out.below HI.out.st.be).below hb).below (boxB w4 _)
     have hc5 := (tok_cells HC5.out j hj').2.2
     have HSZ : Hid ((w4.alloc (.cells #[.int .i64 0, .string ⟨#[]⟩, .int .i64 0, .slice none 0 0] 37)).heap.size = w4.heap.size + 1) := by show _ = _; simp
     obtain ⟨aj, haj⟩ : ∃ aj, (L.getD j tok0).at_ = aj := ⟨_, rfl⟩
     rw [haj] at hc5 HXN
     clear hb hp hXn HREAD HEQ hx hj haj
     unfold ndC
     go_wp2_with (at_builtin; go_must (refine wpList_modE (o := ⟨some 43, _, _, _, _, _⟩) rfl (.tmp 36) (.tmp 42) rfl HS5.out (by omega) rfl rfl (by rw [HSZ.out]; rfl) ?_; intro v' w6 hs6; have HS6 := Lib.hid hs6; clear hs6))
     have hSL6 : SlIs tokEnc w6 (.slice (some ⟨b, off, none⟩) L.length cap) L := HSL.out.below HS6.out.be
     refine (resume_any (some ⟨b, off, none⟩) cap k j L w6 hSL6 HTK.out hj' hk).mono ?_
     rintro e w7 ⟨k', hk'e, hk', rfl, rfl⟩
     have HKE := Lib.hid hk'e
     clear hSL6 hk'e
     go_wp2_with fail
     go_roundw
     case rel => exact ⟨k', f', ts, es ++ [aj], rfl, hk', ⟨HS6.out, by have h1 := HGT.out; have h2 := HKE.out; omega, ⟨by have h1 := HGT.out; have h2 := HKE.out; omega, by have h1 := HGT.out; have h2 := HKE.out; simp; omega⟩, by rw [HKE.out]; exact HXN.out⟩⟩
     case measure => have h1 := HGT.out; have h2 := HKE.out; simp [intOf]; omega
end Go.Proofs.YtheigpiffdabnaaGreat
