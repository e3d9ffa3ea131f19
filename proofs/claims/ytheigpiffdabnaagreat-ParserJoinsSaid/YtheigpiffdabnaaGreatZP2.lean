/-
  PLAIN: exprs, blocks, types and items of tokens that lie within another list.
-/
import Derived.Test.YtheigpiffdabnaaGreatZP1
import Derived.Test.YtheigpiffdabnaaGreatZR6
set_option linter.unusedSimpArgs false
set_option linter.unusedVariables false
namespace Go.Proofs.YtheigpiffdabnaaGreat
open Go Go.RowKit
variable {o n : Nat} {r r' : Rdr}
/-- by cases of what a reader gives: the form in which the plain functions with ifs are shown -/
theorem locE_upTo (S : Seg r r' o n) {en : ByteArray} {part part' : PM Tree} (hp : Loc o n (TR PA) part part') : LocE o n (LR PA) (upToP r en part) (upToP r' en part') := by
 intro i x j e
 unfold upToP at e ⊢
 by_cases hm : isMark r i en = true
 ·rw [if_pos hm] at e
  simp only [Except.ok.injEq, Prod.mk.injEq] at e
  obtain ⟨rfl, rfl⟩ := e
  exact ⟨by omega, fun hj => ⟨[], by rw [if_pos (by rw [S.mark (by omega)]; exact hm)]; rfl, .nil⟩⟩
 ·rw [if_neg hm] at e
  cases hl : listP r ⟨#[44]⟩ part (r.L.length + 1) i with
  | error k => rw [hl] at e; cases e
  | ok y =>
   obtain ⟨us, m⟩ := y
   rw [hl] at e
   simp only at e
   obtain ⟨b1, b2⟩ := loc_list S hp (r.L.length + 1) (r'.L.length + 1) (by have := S.len; omega) i us m hl
   by_cases hg : isMark r m en = true
   ·rw [if_pos hg] at e
    simp only [Except.ok.injEq, Prod.mk.injEq] at e
    obtain ⟨rfl, rfl⟩ := e
    refine ⟨by omega, fun hj => ?_⟩
    obtain ⟨us', e2, r2⟩ := b2 (by omega)
    refine ⟨us', ?_, r2⟩
    rw [if_neg (by rw [S.mark (by omega)]; exact hm), e2]
    simp only
    rw [if_pos (by rw [S.mark (by omega)]; exact hg)]
    rfl
   ·rw [if_neg hg] at e; cases e
theorem loc_chain (S : Seg r r' o n) {part part' : PM Tree} {V : List ByteArray} (hp : Loc o n (TR PA) part part') : ∀ f f', f ≤ f' → ∀ t t', TR PA t t' → Loc o n (TR PA) (chainM r part V f t) (chainM r' part' V f' t')
 | 0, f', _, t, t', h => fun i x j e => by cases e
 | f + 1, 0, hf, t, t', h => absurd hf (by omega)
 | f + 1, f' + 1, hf, t, t', h => loc_beq (loc_sign S V) fun sg => by
  cases sg.toList.isEmpty
  ·exact loc_bt hp fun u u' hu => loc_chain S hp f f' (by omega) _ _ (.of trivial (.two h hu))
  ·exact loc_pure h
theorem Seg.fuel (S : Seg r r' o n) : r.L.length + 1 ≤ r'.L.length + 1 := by have := S.len; omega
theorem loc_chainP (S : Seg r r' o n) {part part' : PM Tree} {V : List ByteArray} (hp : Loc o n (TR PA) part part') : Loc o n (TR PA) (chainP r part V) (chainP r' part' V) := loc_bt hp fun t t' h => loc_chain S hp _ _ S.fuel t t' h
theorem locE_arguments (S : Seg r r' o n) {E E' : PM Tree} (hE : Loc o n (TR PA) E E') : LocE o n (LR PA) (argumentsM r E) (argumentsM r' E') := loc_beqE (loc_need S _) fun _ => locE_upTo S hE
theorem loc_argnd (S : Seg r r' o n) {E E' : PM Tree} (hE : Loc o n (TR PA) E E') (k : Int) (s : ByteArray) (a a' : Int) : Loc o n (TR PA) (bindM (argumentsM r E) fun l => ndM k s a l) (bindM (argumentsM r' E') fun l => ndM k s a' l) := loc_bl (locE_arguments S hE).loc fun l l' hl => loc_nd hl
theorem loc_named (S : Seg r r' o n) {E E' : PM Tree} (hE : Loc o n (TR PA) E E') : Loc o n (TR PA) (namedM r E) (namedM r' E') := loc_bh S fun a a' => loc_beq (loc_name S) fun nm => loc_beq (loc_is S _) fun b => by
 cases b
 ·exact loc_beq (loc_took S _) fun c => by
   cases c
   ·exact loc_nd .nil
   ·exact loc_argnd S hE _ _ _ _
 ·exact loc_argnd S hE _ _ _ _
theorem loc_construction (S : Seg r r' o n) {E E' : PM Tree} (hE : Loc o n (TR PA) E E') : Loc o n (TR PA) (constructionM r E) (constructionM r' E') := loc_bh S fun a a' => loc_beq (loc_need S _) fun _ => loc_beq (loc_name S) fun nm => loc_argnd S hE _ _ _ _
theorem loc_paren (S : Seg r r' o n) {E E' : PM Tree} (hE : Loc o n (TR PA) E E') : Loc o n (TR PA) (parenM r E) (parenM r' E') := loc_beq (loc_need S _) fun _ => loc_bt hE fun t t' ht => loc_beq (loc_need S _) fun _ => loc_pure ht
theorem loc_choice (S : Seg r r' o n) {E E' Bk Bk' : PM Tree} (hE : Loc o n (TR PA) E E') (hB : Loc o n (TR PA) Bk Bk') : Loc o n (TR PA) (choiceM r E Bk) (choiceM r' E' Bk') := loc_bh S fun a a' => loc_beq (loc_need S _) fun _ => loc_bt hE fun c c' hc => loc_bt hB fun y y' hy => loc_beq (loc_need S _) fun _ => loc_bt hB fun n n' hn => loc_nd (.cons hc (.two hy hn))
theorem locE_needpure {α : Type} {R : α → α → Prop} (S : Seg r r' o n) (sg : ByteArray) {x x' : α} (h : R x x') : LocE o n R (bindM (needM r sg) fun _ => pureM x) (bindM (needM r' sg) fun _ => pureM x') := locE_map (g := fun _ => x) (g' := fun _ => x') (locE_need S sg) fun _ _ _ => h
theorem loc_store (S : Seg r r' o n) {E E' : PM Tree} (hE : Loc o n (TR PA) E E') (k : Int) (a a' : Int) : LocE o n (TR PA) (storeM r E k a) (storeM r' E' k a') := loc_beqE (loc_name S) fun nm => loc_beqE (loc_need S _) fun _ => loc_btE hE fun v v' hv => locE_needpure S _ (.of trivial (.one hv))
theorem loc_let (S : Seg r r' o n) {E E' : PM Tree} (hE : Loc o n (TR PA) E E') : Loc o n (TR PA) (letM r E) (letM r' E') := loc_bh S fun a a' => loc_beq (loc_need S _) fun _ => (loc_store S hE _ _ _).loc
theorem loc_assign (S : Seg r r' o n) {E E' : PM Tree} (hE : Loc o n (TR PA) E E') : LocE o n (TR PA) (assignM r E) (assignM r' E') := loc_bhE S fun a a' => loc_store S hE _ _ _
theorem loc_while (S : Seg r r' o n) {E E' Bk Bk' : PM Tree} (hE : Loc o n (TR PA) E E') (hB : Loc o n (TR PA) Bk Bk') : Loc o n (TR PA) (whileM r E Bk) (whileM r' E' Bk') := loc_bh S fun a a' => loc_beq (loc_need S _) fun _ => loc_bt hE fun c c' hc => loc_bt hB fun b b' hb => loc_nd (.two hc hb)
theorem loc_print (S : Seg r r' o n) {E E' : PM Tree} (hE : Loc o n (TR PA) E E') : Loc o n (TR PA) (printM r E) (printM r' E') := loc_bh S fun a a' => loc_beq (loc_need S _) fun _ => loc_bt hE fun v v' hv => (locE_needpure S _ (.of trivial (.one hv))).loc
theorem loc_value (S : Seg r r' o n) {E E' : PM Tree} (hE : Loc o n (TR PA) E E') : Loc o n (TR PA) (valueM r E) (valueM r' E') := loc_bt hE fun v v' hv => loc_beq (loc_is S _) fun b => by
 cases b
 ·exact loc_beq (loc_need S _) fun _ => loc_pure (.of trivial (.one hv))
 ·exact loc_pure hv
/-- the text behind the next token, where more than that token is read -/
theorem loc_peek {β : Type} {Q : β → β → Prop} (S : Seg r r' o n) {f f' : ByteArray → PM β} (hu : ∀ x, UpS (f x)) (hf : ∀ x, Loc o n Q (f x) (f' x)) : Loc o n Q (bindM (peekM r) f) (bindM (peekM r') f') := by
 intro i y j h
 have h' : f (r.L.getD (i + 1) tok0).text i = .ok (y, j) := h
 have h1 := hu _ _ _ _ h'
 refine ⟨by omega, fun hj => ?_⟩
 have h2 : bindM (peekM r') f' (o + i) = f' (r'.L.getD (o + i + 1) tok0).text (o + i) := rfl
 rw [h2, show o + i + 1 = o + (i + 1) from rfl, S.text (i + 1) (by omega)]
 exact (hf _ i y j h').2 hj
theorem loc_stmt (S : Seg r r' o n) {E E' Bk Bk' : PM Tree} (uE : UpS E) (hE : Loc o n (TR PA) E E') (hB : Loc o n (TR PA) Bk Bk') : Loc o n (TR PA) (stmtM r E Bk) (stmtM r' E' Bk') := loc_beq (loc_is S _) fun b1 => by
 cases b1
 ·exact loc_beq (loc_is S _) fun b2 => by
   cases b2
   ·exact loc_beq (loc_is S _) fun b3 => by
     cases b3
     ·refine loc_bind (R := TkR PA) (fun x => ⟨rfl, rfl, trivial⟩) (loc_at _ _ (fun _ => rfl) (fun _ => rfl) fun i hi => ⟨S.kind i hi, S.text i hi, trivial⟩) fun x x' hx => ?_
      rw [hx.1]
      cases decide (x.kind = 1)
      ·exact loc_value S hE
      ·refine loc_peek S (fun y => ?_) fun y => ?_
       ·cases isB y ⟨#[61]⟩
        ·exact ups_value uE
        ·exact ups_assign uE.up
       ·cases isB y ⟨#[61]⟩
        ·exact loc_value S hE
        ·exact (loc_assign S hE).loc
     ·exact loc_print S hE
   ·exact loc_while S hE hB
 ·exact loc_let S hE
theorem loc_stmts (S : Seg r r' o n) {E E' Bk Bk' : PM Tree} (uE : UpS E) (hE : Loc o n (TR PA) E E') (hB : Loc o n (TR PA) Bk Bk') : ∀ f f', f ≤ f' → ∀ l l', LR PA l l' → Loc o n (LR PA) (stmtsM r E Bk f l) (stmtsM r' E' Bk' f' l')
 | 0, f', _, l, l', h => fun i x j e => by cases e
 | f + 1, 0, hf, l, l', h => absurd hf (by omega)
 | f + 1, f' + 1, hf, l, l', h => loc_beq (loc_is S _) fun b => by
  cases b
  ·exact loc_bt (loc_stmt S uE hE hB) fun u u' hu => loc_stmts S uE hE hB f f' (by omega) _ _ (h.append (.one hu))
  ·exact loc_pure h
theorem locE_block (S : Seg r r' o n) {E E' Bk Bk' : PM Tree} (uE : UpS E) (hE : Loc o n (TR PA) E E') (hB : Loc o n (TR PA) Bk Bk') : LocE o n (TR PA) (blockM r E Bk) (blockM r' E' Bk') :=
 loc_bhE S fun a a' => loc_beqE (loc_need S _) fun _ => loc_bindE LR.self (loc_stmts S uE hE hB _ _ S.fuel [] [] .nil) fun l l' hl => locE_map (locE_take S) fun x x' hx => .of trivial (by
  rw [hl.last]
  by_cases hn : noValue l = true
  ·(repeat rw [if_pos hn]); exact hl.append (.one (.of trivial .nil))
  ·(repeat rw [if_neg hn]); exact hl)
theorem loc_primary (S : Seg r r' o n) {E E' Bk Bk' : PM Tree} (uE : UpS E) (hE : Loc o n (TR PA) E E') (hB : Loc o n (TR PA) Bk Bk') (uB : Up Bk) : Loc o n (TR PA) (primaryM r E Bk) (primaryM r' E' Bk') := by
 intro i y j h
 have hs := ups_primary uE uB i y j h
 refine ⟨by omega, fun hj => ?_⟩
 have hi : i < n := by omega
 have key : ∀ (c : Lx.Tok), c = r.L.getD i tok0 → Loc o n (TR PA) (if c.kind = 3 then bindM (takeM r) fun _ => ndM 20 c.text c.at_ []
   else if c.kind = 1 then namedM r E
   else if isB c.text ⟨#[116, 114, 117, 101]⟩ = true ∨ isB c.text ⟨#[102, 97, 108, 115, 101]⟩ = true then bindM (takeM r) fun _ => ndM 21 c.text c.at_ []
   else if isB c.text ⟨#[110, 101, 119]⟩ = true then constructionM r E
   else if isB c.text ⟨#[40]⟩ = true then parenM r E
   else if isB c.text ⟨#[105, 102]⟩ = true then choiceM r E Bk
   else if isB c.text ⟨#[123]⟩ = true then blockM r E Bk
   else failM) (if c.kind = 3 then bindM (takeM r') fun _ => ndM 20 c.text (r'.L.getD (o + i) tok0).at_ []
   else if c.kind = 1 then namedM r' E'
   else if isB c.text ⟨#[116, 114, 117, 101]⟩ = true ∨ isB c.text ⟨#[102, 97, 108, 115, 101]⟩ = true then bindM (takeM r') fun _ => ndM 21 c.text (r'.L.getD (o + i) tok0).at_ []
   else if isB c.text ⟨#[110, 101, 119]⟩ = true then constructionM r' E'
   else if isB c.text ⟨#[40]⟩ = true then parenM r' E'
   else if isB c.text ⟨#[105, 102]⟩ = true then choiceM r' E' Bk'
   else if isB c.text ⟨#[123]⟩ = true then blockM r' E' Bk'
   else failM) := fun c _ =>
  loc_if (locE_map (locE_take S) fun _ _ _ => .of trivial .nil).loc (loc_if (loc_named S hE) (loc_if (locE_map (locE_take S) fun _ _ _ => .of trivial .nil).loc (loc_if (loc_construction S hE) (loc_if (loc_paren S hE) (loc_if (loc_choice S hE hB) (loc_if (locE_block S uE hE hB).loc loc_fail))))))
 obtain ⟨x', e, hx⟩ := (key _ rfl i y j h).2 hj
 refine ⟨x', ?_, hx⟩
 rw [← e, ← S.kind i hi, ← S.text i hi]
 rfl
theorem loc_dots (S : Seg r r' o n) : ∀ f f', f ≤ f' → ∀ t t', TR PA t t' → Loc o n (TR PA) (dotsM r f t) (dotsM r' f' t')
 | 0, f', _, t, t', h => fun i x j e => by cases e
 | f + 1, 0, hf, t, t', h => absurd hf (by omega)
 | f + 1, f' + 1, hf, t, t', h => loc_beq (loc_took S _) fun b => by
  cases b
  ·exact loc_pure h
  ·exact loc_beq (loc_name S) fun nm => loc_dots S f f' (by omega) _ _ (.of trivial (.one h))
theorem loc_post (S : Seg r r' o n) {E E' Bk Bk' : PM Tree} (uE : UpS E) (hE : Loc o n (TR PA) E E') (hB : Loc o n (TR PA) Bk Bk') (uB : Up Bk) : Loc o n (TR PA) (postM r E Bk) (postM r' E' Bk') := loc_bt (loc_primary S uE hE hB uB) fun t t' h => loc_dots S _ _ S.fuel t t' h
theorem loc_unary (S : Seg r r' o n) {E E' Bk Bk' U U' : PM Tree} (uE : UpS E) (hE : Loc o n (TR PA) E E') (hB : Loc o n (TR PA) Bk Bk') (uB : Up Bk) (hU : Loc o n (TR PA) U U') : Loc o n (TR PA) (unaryM r E Bk U) (unaryM r' E' Bk' U') := loc_bh S fun a a' => loc_beq (loc_sign S _) fun sg => by
 cases sg.toList.isEmpty
 ·exact loc_bt hU fun t t' h => loc_nd (.one h)
 ·exact loc_post S uE hE hB uB
theorem loc_rel (S : Seg r r' o n) {E E' Bk Bk' U U' : PM Tree} (uE : UpS E) (hE : Loc o n (TR PA) E E') (hB : Loc o n (TR PA) Bk Bk') (uB : Up Bk) (hU : Loc o n (TR PA) U U') : Loc o n (TR PA) (relM r E Bk U) (relM r' E' Bk' U') := by
 have hs : Loc o n (TR PA) (sumM r E Bk U) (sumM r' E' Bk' U') := loc_chainP S (loc_chainP S (loc_unary S uE hE hB uB hU))
 exact loc_bt hs fun t t' h => loc_beq (loc_sign S _) fun sg => by
  cases sg.toList.isEmpty
  ·exact loc_bt hs fun u u' hu => loc_pure (.of trivial (.two h hu))
  ·exact loc_pure h
theorem loc_sub (S : Seg r r' o n) : ∀ d, Loc o n (TR PA) (subL r d).E (subL r' d).E ∧ LocE o n (TR PA) (subL r d).B (subL r' d).B ∧ Loc o n (TR PA) (subL r d).U (subL r' d).U
 | 0 => ⟨loc_fail, locE_fail, loc_fail⟩
 | d + 1 => by
  obtain ⟨h1, h2, h3⟩ := loc_sub S d
  obtain ⟨u1, u2, u3⟩ := ups_sub r d
  exact ⟨loc_chainP S (loc_chainP S (loc_rel S u1 h1 h2.loc u2.up h3)), locE_block S u1 h1 h2.loc, loc_unary S u1 h1 h2.loc u2.up h3⟩
end Go.Proofs.YtheigpiffdabnaaGreat
namespace Go.Proofs.YtheigpiffdabnaaGreat
open Go Go.RowKit
variable {o n : Nat} {r r' : Rdr}
theorem at_here {α : Type} (r : Rdr) (f : Int → PM α) (i : Nat) : bindM (hereM r) f i = f (r.L.getD i tok0).at_ i := rfl
theorem nameP_eq (r : Rdr) : nameP r = bindM (hereM r) fun a => bindM (nameM r) fun nm => ndM 22 nm a [] := by
 funext i
 rw [at_here]
 unfold nameP
 by_cases hk : (r.L.getD i tok0).kind = 1
 ·rw [if_pos hk, at_ok (nm_yes hk)]; rfl
 ·rw [if_neg hk, at_err (nm_no hk)]
theorem argP_eq (r : Rdr) (T : PM Tree) : argP r T = bindM (hereM r) fun a => bindM (nameM r) fun nm => bindM (needM r ⟨#[58]⟩) fun _ => bindM T fun t => ndM 13 nm a [t] := by
 funext i
 rw [at_here]
 unfold argP
 by_cases hk : (r.L.getD i tok0).kind = 1
 ·rw [if_pos hk, at_ok (nm_yes hk)]
  by_cases hc : isMark r (i + 1) ⟨#[58]⟩ = true
  ·rw [if_pos hc, at_ok (nd_yes hc)]
   cases ht : T (i + 2) with
   | error k => rw [at_err (show T (i + 1 + 1) = .error k from ht)]
   | ok z => obtain ⟨t, j⟩ := z; rw [at_ok (show T (i + 1 + 1) = .ok (t, j) from ht)]; rfl
  ·rw [if_neg hc, at_err (nd_no hc)]
 ·rw [if_neg hk, at_err (nm_no hk)]
theorem paramP_eq (r : Rdr) : paramP r = bindM (hereM r) fun a => bindM (nameM r) fun nm => bindM (tookM r ⟨#[58]⟩) fun b => match b with
  | true => bindM (nameP r) fun t => ndM 11 nm a [t]
  | false => ndM 11 nm a [] := by
 funext i
 rw [at_here]
 unfold paramP
 by_cases hk : (r.L.getD i tok0).kind = 1
 ·rw [if_pos hk, at_ok (nm_yes hk)]
  by_cases hc : isMark r (i + 1) ⟨#[58]⟩ = true
  ·rw [if_pos hc, at_ok (tk_yes hc)]
   dsimp only
   cases ht : nameP r (i + 2) with
   | error k => rw [at_err (show nameP r (i + 1 + 1) = .error k from ht)]
   | ok z => obtain ⟨t, j⟩ := z; rw [at_ok (show nameP r (i + 1 + 1) = .ok (t, j) from ht)]; rfl
  ·rw [if_neg hc, at_ok (tk_no hc)]; rfl
 ·rw [if_neg hk, at_err (nm_no hk)]
theorem paramsP_eq (r : Rdr) : paramsP r = bindM (hereM r) fun a => bindM (tookM r ⟨#[60]⟩) fun b => match b with
  | true => bindM (listP r ⟨#[44]⟩ (paramP r) (r.L.length + 1)) fun ts => bindM (needM r ⟨#[62]⟩) fun _ => ndM 10 ⟨#[]⟩ a ts
  | false => ndM 10 ⟨#[]⟩ a [] := by
 funext i
 rw [at_here]
 unfold paramsP
 by_cases hc : isMark r i ⟨#[60]⟩ = true
 ·rw [if_pos hc, at_ok (tk_yes hc)]
  dsimp only
  cases hl : listP r ⟨#[44]⟩ (paramP r) (r.L.length + 1) (i + 1) with
  | error k => rw [at_err hl]
  | ok z =>
   obtain ⟨ts, j⟩ := z
   rw [at_ok hl]
   dsimp only
   by_cases hg : isMark r j ⟨#[62]⟩ = true
   ·rw [if_pos hg, at_ok (nd_yes hg)]; rfl
   ·rw [if_neg hg, at_err (nd_no hg)]
 ·rw [if_neg hc, at_ok (tk_no hc)]; rfl
theorem supersP_eq (r : Rdr) : supersP r = bindM (hereM r) fun a => bindM (tookM r ⟨#[58]⟩) fun b => match b with
  | true => bindM (hereM r) fun a3 => bindM (listP r ⟨#[43]⟩ (nameP r) (r.L.length + 1)) fun ts => ndM 14 ⟨#[]⟩ a3 ts
  | false => ndM 14 ⟨#[]⟩ a [] := by
 funext i
 rw [at_here]
 unfold supersP
 by_cases hc : isMark r i ⟨#[58]⟩ = true
 ·rw [if_pos hc, at_ok (tk_yes hc)]
  dsimp only
  rw [at_here]
  cases hl : listP r ⟨#[43]⟩ (nameP r) (r.L.length + 1) (i + 1) with
  | error k => rw [at_err hl]
  | ok z => obtain ⟨ts, j⟩ := z; rw [at_ok hl]; rfl
 ·rw [if_neg hc, at_ok (tk_no hc)]; rfl
theorem argsP_eq (r : Rdr) (be en : ByteArray) (part : PM Tree) : argsP r be en part = bindM (needM r be) fun _ => bindM (hereM r) fun a => bindM (upToP r en part) fun ts => ndM 12 ⟨#[]⟩ a ts := by
 funext i
 unfold argsP
 by_cases hc : isMark r i be = true
 ·rw [if_pos hc, at_ok (nd_yes hc), at_here]
  cases hl : upToP r en part (i + 1) with
  | error k => rw [at_err hl]
  | ok z => obtain ⟨ts, j⟩ := z; rw [at_ok hl]; rfl
 ·rw [if_neg hc, at_err (nd_no hc)]
theorem typTail_eq (r : Rdr) (sub : PM Tree) : typTail r sub = bindM (hereM r) fun a => bindM (nameM r) fun nm => bindM (tookM r ⟨#[60]⟩) fun b => match b with
  | true => bindM (listP r ⟨#[44]⟩ sub (r.L.length + 1)) fun ts => bindM (needM r ⟨#[62]⟩) fun _ => ndM 15 nm a ts
  | false => ndM 15 nm a [] := by
 funext i
 rw [at_here]
 unfold typTail
 by_cases hk : (r.L.getD i tok0).kind = 1
 ·rw [if_pos hk, at_ok (nm_yes hk)]
  by_cases hc : isMark r (i + 1) ⟨#[60]⟩ = true
  ·rw [if_pos hc, at_ok (tk_yes hc)]
   dsimp only
   cases hl : listP r ⟨#[44]⟩ sub (r.L.length + 1) (i + 2) with
   | error k => rw [at_err (show listP r ⟨#[44]⟩ sub (r.L.length + 1) (i + 1 + 1) = .error k from hl)]
   | ok z =>
    obtain ⟨ts, j⟩ := z
    rw [at_ok (show listP r ⟨#[44]⟩ sub (r.L.length + 1) (i + 1 + 1) = .ok (ts, j) from hl)]
    dsimp only
    by_cases hg : isMark r j ⟨#[62]⟩ = true
    ·rw [if_pos hg, at_ok (nd_yes hg)]; rfl
    ·rw [if_neg hg, at_err (nd_no hg)]
  ·rw [if_neg hc, at_ok (tk_no hc)]; rfl
 ·rw [if_neg hk, at_err (nm_no hk)]
theorem typL_eq (r : Rdr) (s : Bool) (d : Nat) : typL r s (d + 1) = bindM (tokM r) fun x => if hit x.text W3 = true then bindM (takeM r) fun _ => ndM 15 x.text x.at_ [] else if s = true ∧ isB x.text selfB = true then bindM (takeM r) fun _ => ndM 15 selfB x.at_ [] else typTail r (typL r s d) := by
 funext i
 show typAt r s (typL r s d) i = (if hit (r.L.getD i tok0).text W3 = true then bindM (takeM r) fun _ => ndM 15 (r.L.getD i tok0).text (r.L.getD i tok0).at_ [] else if s = true ∧ isB (r.L.getD i tok0).text selfB = true then bindM (takeM r) fun _ => ndM 15 selfB (r.L.getD i tok0).at_ [] else typTail r (typL r s d) : PM Tree) i
 unfold typAt
 by_cases h1 : hit (r.L.getD i tok0).text W3 = true
 ·rw [if_pos h1, if_pos h1]; rfl
 ·rw [if_neg h1, if_neg h1]
  by_cases h2 : s = true ∧ isMark r i selfB = true
  ·rw [if_pos h2, if_pos (show s = true ∧ isB (r.L.getD i tok0).text selfB = true from h2)]; rfl
  ·rw [if_neg h2, if_neg (show ¬ (s = true ∧ isB (r.L.getD i tok0).text selfB = true) from h2)]
theorem loc_nameP (S : Seg r r' o n) : Loc o n (TR PA) (nameP r) (nameP r') := by
 rw [nameP_eq, nameP_eq]
 exact loc_bh S fun a a' => loc_beq (loc_name S) fun nm => loc_nd .nil
theorem loc_noParams (S : Seg r r' o n) : Loc o n (TR PA) (noParamsP r) (noParamsP r') := loc_at _ _ (fun _ => rfl) (fun _ => rfl) fun _ _ => .of trivial .nil
theorem loc_arg (S : Seg r r' o n) {T T' : PM Tree} (hT : Loc o n (TR PA) T T') : Loc o n (TR PA) (argP r T) (argP r' T') := by
 rw [argP_eq, argP_eq]
 exact loc_bh S fun a a' => loc_beq (loc_name S) fun nm => loc_beq (loc_need S _) fun _ => loc_bt hT fun t t' ht => loc_nd (.one ht)
theorem loc_result (S : Seg r r' o n) {T T' : PM Tree} (hT : Loc o n (TR PA) T T') : Loc o n (TR PA) (resultP r T) (resultP r' T') := by
 rw [← resultR_eq, ← resultR_eq]
 exact loc_beq (loc_took S _) fun b => by
  cases b
  ·exact loc_bh S fun a a' => loc_nd .nil
  ·exact hT
theorem locE_args (S : Seg r r' o n) {be en : ByteArray} {part part' : PM Tree} (hp : Loc o n (TR PA) part part') : LocE o n (TR PA) (argsP r be en part) (argsP r' be en part') := by
 rw [argsP_eq, argsP_eq]
 exact loc_beqE (loc_need S _) fun _ => loc_bhE S fun a a' => locE_map (locE_upTo S hp) fun ts ts' h => .of trivial h
theorem loc_param (S : Seg r r' o n) : Loc o n (TR PA) (paramP r) (paramP r') := by
 rw [paramP_eq, paramP_eq]
 exact loc_bh S fun a a' => loc_beq (loc_name S) fun nm => loc_beq (loc_took S _) fun b => by
  cases b
  ·exact loc_nd .nil
  ·exact loc_bt (loc_nameP S) fun t t' ht => loc_nd (.one ht)
theorem loc_params (S : Seg r r' o n) : Loc o n (TR PA) (paramsP r) (paramsP r') := by
 rw [paramsP_eq, paramsP_eq]
 exact loc_bh S fun a a' => loc_beq (loc_took S _) fun b => by
  cases b
  ·exact loc_nd .nil
  ·exact loc_bl (loc_list S (loc_param S) _ _ S.fuel) fun ts ts' h => loc_beq (loc_need S _) fun _ => loc_nd h
theorem loc_supers (S : Seg r r' o n) : Loc o n (TR PA) (supersP r) (supersP r') := by
 rw [supersP_eq, supersP_eq]
 exact loc_bh S fun a a' => loc_beq (loc_took S _) fun b => by
  cases b
  ·exact loc_nd .nil
  ·exact loc_bh S fun a a' => loc_bl (loc_list S (loc_nameP S) _ _ S.fuel) fun ts ts' h => loc_nd h
theorem loc_typ (S : Seg r r' o n) (s : Bool) : ∀ d, Loc o n (TR PA) (typL r s d) (typL r' s d)
 | 0 => fun i x j e => by cases e
 | d + 1 => by
  rw [typL_eq, typL_eq]
  refine loc_bind (R := TkR PA) (fun x => ⟨rfl, rfl, trivial⟩) (loc_at _ _ (fun _ => rfl) (fun _ => rfl) fun i hi => ⟨S.kind i hi, S.text i hi, trivial⟩) fun x x' hx => ?_
  rw [hx.2.1]
  refine loc_if (locE_map (locE_take S) fun _ _ _ => .of trivial .nil).loc (loc_if (locE_map (locE_take S) fun _ _ _ => .of trivial .nil).loc ?_)
  rw [typTail_eq, typTail_eq]
  exact loc_bh S fun a a' => loc_beq (loc_name S) fun nm => loc_beq (loc_took S _) fun b => by
   cases b
   ·exact loc_nd .nil
   ·exact loc_bl (loc_list S (loc_typ S s d) _ _ S.fuel) fun ts ts' h => loc_beq (loc_need S _) fun _ => loc_nd h
theorem locE_all (S : Seg r r' o n) {en : ByteArray} {part part' : PM Tree} (hp : Loc o n (TR PA) part part') : ∀ f f', f ≤ f' → ∀ l l', LR PA l l' → LocE o n (LR PA) (allM r en part f l) (allM r' en part' f' l')
 | 0, f', _, l, l', hl => fun i x j e => by cases e
 | f + 1, 0, hf, l, l', hl => absurd hf (by omega)
 | f + 1, f' + 1, hf, l, l', hl => by
  intro i y j h
  have h0 : bindM (tookM r en) (fun b => match b with | true => pureM l | false => bindM part fun t => allM r en part f (l ++ [t])) i = .ok (y, j) := h
  show _ ∧ (_ → ∃ x', bindM (tookM r' en) (fun b => match b with | true => pureM l' | false => bindM part' fun t => allM r' en part' f' (l' ++ [t])) (o + i) = .ok (x', o + j) ∧ _)
  by_cases hm : isMark r i en = true
  ·rw [at_ok (tk_yes hm)] at h0
   have h1 : Except.ok (ε := Nat) (l, i + 1) = .ok (y, j) := h0
   simp only [Except.ok.injEq, Prod.mk.injEq] at h1
   obtain ⟨rfl, rfl⟩ := h1
   exact ⟨by omega, fun hj => ⟨l', by rw [at_ok (tk_yes (show isMark r' (o + i) en = true by rw [S.mark (by omega)]; exact hm))]; rfl, hl⟩⟩
  ·rw [at_ok (tk_no hm)] at h0
   obtain ⟨b1, b2⟩ := (loc_btE hp fun t t' ht => locE_all S hp f f' (by omega) _ _ (hl.append (.one ht))) i y j h0
   refine ⟨b1, fun hj => ?_⟩
   obtain ⟨y', e, hy⟩ := b2 hj
   exact ⟨y', by rw [at_ok (tk_no (show ¬ isMark r' (o + i) en = true by rw [S.mark (by omega)]; exact hm))]; exact e, hy⟩
theorem locE_allP (S : Seg r r' o n) {en : ByteArray} {part part' : PM Tree} (hp : Loc o n (TR PA) part part') : LocE o n (LR PA) (allP r en part) (allP r' en part') := locE_all S hp _ _ S.fuel _ _ .nil
theorem locE_constant (S : Seg r r' o n) {T T' E E' : PM Tree} (hT : Loc o n (TR PA) T T') (hX : Loc o n (TR PA) E E') : LocE o n (TR PA) (constantM r T E) (constantM r' T' E') := loc_bhE S fun a a' => loc_beqE (loc_need S _) fun _ => loc_beqE (loc_name S) fun nm => loc_beqE (loc_need S _) fun _ => loc_btE hT fun o o' ho => loc_beqE (loc_need S _) fun _ => loc_btE hX fun v v' hv => locE_needpure S _ (.of trivial (.two ho hv))
theorem locE_function (S : Seg r r' o n) {Ps Ps' T T' Bk Bk' : PM Tree} (hP : Loc o n (TR PA) Ps Ps') (hT : Loc o n (TR PA) T T') (hB : LocE o n (TR PA) Bk Bk') : LocE o n (TR PA) (functionM r Ps T Bk) (functionM r' Ps' T' Bk') := loc_bhE S fun a a' => loc_beqE (loc_need S _) fun _ => loc_beqE (loc_name S) fun nm => loc_btE hP fun p p' hp => loc_btE (locE_args S (loc_arg S hT)).loc fun q q' hq => loc_btE (loc_result S hT) fun o o' ho => locE_map hB fun b b' hb => .of trivial (.cons hp (.cons hq (.two ho hb)))
theorem locE_record (S : Seg r r' o n) {T T' : PM Tree} (hT : Loc o n (TR PA) T T') : LocE o n (TR PA) (recordM r T) (recordM r' T') := loc_bhE S fun a a' => loc_beqE (loc_need S _) fun _ => loc_beqE (loc_name S) fun nm => loc_btE (loc_params S) fun p p' hp => locE_map (locE_args S (loc_arg S hT)) fun q q' hq => .of trivial (.two hp hq)
theorem locE_sig (S : Seg r r' o n) {T T' : PM Tree} (hT : Loc o n (TR PA) T T') : LocE o n (TR PA) (sigM r T) (sigM r' T') := loc_bhE S fun a a' => loc_beqE (loc_need S _) fun _ => loc_beqE (loc_name S) fun nm => loc_btE (locE_args S (loc_arg S hT)).loc fun q q' hq => loc_btE (loc_result S hT) fun o o' ho => locE_needpure S _ (.of trivial (.two hq ho))
theorem locE_trait (S : Seg r r' o n) {T T' : PM Tree} (hT : Loc o n (TR PA) T T') : LocE o n (TR PA) (traitM r T) (traitM r' T') := loc_bhE S fun a a' => loc_beqE (loc_need S _) fun _ => loc_beqE (loc_name S) fun nm => loc_btE (loc_supers S) fun u u' hu => loc_beqE (loc_need S _) fun _ => locE_map (locE_allP S (locE_sig S hT).loc) fun l l' hl => .of trivial (.cons hu hl)
theorem locE_impl (S : Seg r r' o n) {T T' Bk Bk' : PM Tree} (hT : Loc o n (TR PA) T T') (hB : LocE o n (TR PA) Bk Bk') : LocE o n (TR PA) (implM r T Bk) (implM r' T' Bk') := loc_bhE S fun a a' => loc_beqE (loc_need S _) fun _ => loc_btE (loc_params S) fun p p' hp => loc_beqE (loc_name S) fun nm => loc_beqE (loc_need S _) fun _ => loc_btE hT fun t t' ht => loc_beqE (loc_need S _) fun _ => locE_map (locE_allP S (locE_function S (loc_noParams S) hT hB).loc) fun l l' hl => .of trivial (.cons hp (.cons ht hl))
theorem locE_macro (S : Seg r r' o n) {E E' : PM Tree} (hX : Loc o n (TR PA) E E') : LocE o n (TR PA) (macroM r E) (macroM r' E') := loc_bhE S fun a a' => loc_beqE (loc_need S _) fun _ => loc_beqE (loc_name S) fun nm => loc_btE (locE_args S (loc_nameP S)).loc fun q q' hq => loc_beqE (loc_need S _) fun _ => loc_btE hX fun v v' hv => locE_needpure S _ (.of trivial (.two hq hv))
theorem locE_use (S : Seg r r' o n) : LocE o n (TR PA) (useP r) (useP r') := by
 rw [← useR_eq, ← useR_eq]
 exact loc_bhE S fun a a' => loc_beqE (loc_need S _) fun _ => loc_beqE (loc_name S) fun nm => locE_needpure S _ (.of trivial .nil)
theorem locE_pubUse (S : Seg r r' o n) : LocE o n (TR PA) (pubUseP r) (pubUseP r') := by
 rw [← pubR_eq, ← pubR_eq]
 exact loc_bhE S fun a a' => loc_beqE (loc_need S _) fun _ => loc_beqE (loc_need S _) fun _ => loc_beqE (loc_name S) fun nm => locE_needpure S _ (.of trivial .nil)
/-- an item that ends among these tokens is read of the other list, too -/
theorem locE_itemT (S : Seg r r' o n) : LocE o n (TR PA) (itemT r) (itemT r') := by
 obtain ⟨h1, h2, h3⟩ := loc_sub S 60
 have t0 := loc_typ S false 60
 have t1 := loc_typ S true 60
 unfold itemT itemM
 refine loc_bindE (R := TkR PA) (fun x => ⟨rfl, rfl, trivial⟩) (loc_at _ _ (fun _ => rfl) (fun _ => rfl) fun i hi => ⟨S.kind i hi, S.text i hi, trivial⟩) fun x x' hx => ?_
 rw [hx.2.1]
 exact locE_if (locE_use S) (locE_if (locE_pubUse S) (locE_if (locE_constant S t0 h1) (locE_if (locE_function S (loc_params S) t0 h2) (locE_if (locE_record S t0) (locE_if (locE_trait S t1) (locE_if (locE_impl S t0 h2) (locE_if (locE_macro S h1) locE_fail)))))))
end Go.Proofs.YtheigpiffdabnaaGreat
