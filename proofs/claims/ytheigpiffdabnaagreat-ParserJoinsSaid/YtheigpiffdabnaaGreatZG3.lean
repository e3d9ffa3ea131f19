/-
  PLAIN: what the pieces of a text are read as, and texts that are put together of them.
-/
import Derived.Test.YtheigpiffdabnaaGreatZG2
set_option linter.unusedSectionVars false
set_option linter.unusedSimpArgs false
set_option linter.unusedVariables false
namespace Go.Proofs.YtheigpiffdabnaaGreat
open Go Go.RowKit
namespace Gr
open Lx
/-- what may stand behind a piece: anything, or nothing that goes on with a run -/
def Free (b : Bool) (r : Bs) : Prop := b = true ∨ ∀ c l, r = c :: l → runB c = false
/-- a piece is read as these tokens, whatever stands before and behind it -/
def Lxs (b : Bool) (s : Bs) (T : List KT) : Prop := ∀ (r : Bs) (a : Nat) (U : List Tok), Free b r → Scan r (a + s.length) U → ∃ V : List Tok, V.map Gr.kt = T ∧ Scan (s ++ r) a (V ++ U)
theorem Lxs.app {b c : Bool} {s t : Bs} {T U : List KT} (h : Lxs b s T) (h' : Lxs c t U) (hf : b = true ∨ ∃ x l, t = x :: l ∧ runB x = false) : Lxs c (s ++ t) (T ++ U) := fun r a W hr hW => by
 rw [List.length_append, ← Nat.add_assoc] at hW
 obtain ⟨V', e', h2⟩ := h' r _ W hr hW
 obtain ⟨V, e, h1⟩ := h (t ++ r) a (V' ++ W) (by
  rcases hf with hf | ⟨x, l, rfl, hx⟩
  ·exact .inl hf
  ·exact .inr fun y m e => by simp only [List.cons_append, List.cons.injEq] at e; rw [← e.1]; exact hx) h2
 exact ⟨V ++ V', by rw [List.map_append, e, e'], by rw [List.append_assoc, List.append_assoc]; exact h1⟩
theorem lxs_nil : Lxs true [] [] := fun r a U _ hU => ⟨[], rfl, hU⟩
theorem lxs_blank {c : UInt8} (h : blankI (c.toNat : Int) = true) : Lxs true [c] [] := fun r a U _ hU => ⟨[], rfl, .blank c r a U h hU⟩
theorem run_plain {c : UInt8} (h : runB c = true) : blankI (c.toNat : Int) = false ∧ (c.toNat : Int) ≠ 47 := by
 unfold runB runI ltrI digI at h
 simp only [Bool.or_eq_true, decide_eq_true_eq] at h
 refine ⟨?_, by omega⟩
 unfold blankI
 rw [decide_eq_false]
 omega
theorem comment_no {c : UInt8} {l : Bs} (h : (c.toNat : Int) ≠ 47) : comment (c :: l) = false := by
 cases l with
 | nil => rfl
 | cons d l => show decide ((c.toNat : Int) = 47 ∧ (d.toNat : Int) = 47) = false; rw [decide_eq_false]; exact fun e => h e.1
theorem lxs_run {w : Bs} (h0 : w ≠ []) (h : ∀ c ∈ w, runB c = true) : Lxs false w [(kindRun w, mk w)] := fun r a U hr hU => by
 have hr' : ∀ c l, r = c :: l → runB c = false := by
  rcases hr with hr | hr
  ·cases hr
  ·exact hr
 have e0 : r.takeWhile runB = [] := by
  cases r with
  | nil => rfl
  | cons c l => rw [List.takeWhile_cons, hr' c l rfl]; rfl
 have e1 : runLen (w ++ r) = w.length := by
  unfold runLen
  rw [List.takeWhile_append_of_pos h, e0, List.append_nil]
 obtain ⟨c, v, rfl⟩ : ∃ c v, w = c :: v := by cases w with | nil => exact absurd rfl h0 | cons c v => exact ⟨c, v, rfl⟩
 have hp := run_plain (h c (by simp))
 have ht : tokLen (c :: (v ++ r)) = (c :: v).length := by
  unfold tokLen
  rw [← List.cons_append, e1, if_pos (by simp)]
 have hk : tokKind (c :: (v ++ r)) = kindRun (c :: v) := by
  unfold tokKind
  rw [← List.cons_append, e1, if_pos (by simp)]
  congr 1
  rw [List.take_left']
  rfl
 refine ⟨[tokOf (c :: (v ++ r)) a], ?_, ?_⟩
 ·simp only [List.map_cons, List.map_nil, Gr.kt, tokOf, hk, ht]
  rw [← List.cons_append, List.take_left' rfl]
 ·refine .tok c (v ++ r) a U hp.1 (comment_no hp.2) ?_
  rw [ht, ← List.cons_append, List.drop_left' rfl]
  exact hU
/-- a mark of n bytes at the front of what is read -/
theorem lxs_mark {m : Bs} {c : UInt8} {v r : Bs} {a : Nat} {U : List Tok} (hm : m = c :: v) (hb : blankI (c.toNat : Int) = false) (hr : runB c = false) (hc : comment (m ++ r) = false) (hl : markLen (m ++ r) = m.length) (hU : Scan r (a + m.length) U) : ∃ V : List Tok, V.map Gr.kt = [(4, mk m)] ∧ Scan (m ++ r) a (V ++ U) := by
 subst hm
 have e1 : runLen (c :: (v ++ r)) = 0 := by unfold runLen; rw [List.takeWhile_cons, hr]; rfl
 rw [List.cons_append] at hl hc
 have ht : tokLen (c :: (v ++ r)) = (c :: v).length := by
  unfold tokLen
  rw [e1, if_neg (by omega), hl, if_pos (by simp)]
 have hk : tokKind (c :: (v ++ r)) = 4 := by
  unfold tokKind
  rw [e1, if_neg (by omega), hl, if_pos (by simp)]
 refine ⟨[tokOf (c :: (v ++ r)) a], ?_, ?_⟩
 ·simp only [List.map_cons, List.map_nil, Gr.kt, tokOf, hk, ht]
  rw [← List.cons_append, List.take_left' rfl]
 ·refine .tok c (v ++ r) a U hb hc ?_
  rw [ht, ← List.cons_append, List.drop_left' rfl]
  exact hU
/-- marks that are never the first of two -/
def safe1 (c : UInt8) : Bool := c == 40 || c == 41 || c == 123 || c == 125 || c == 60 || c == 62 || c == 44 || c == 59 || c == 58 || c == 46 || c == 43 || c == 42 || c == 37 || c == 33
theorem lxs_mark1 {c : UInt8} (h : safe1 c = true) : Lxs true [c] [(4, mk [c])] := fun r a U _ hU => by
 unfold safe1 at h
 simp only [Bool.or_eq_true, beq_iff_eq] at h
 refine lxs_mark (c := c) (v := []) rfl ?_ ?_ ?_ ?_ hU
 ·rcases h with ((((((((((((h | h) | h) | h) | h) | h) | h) | h) | h) | h) | h) | h) | h) | h <;> (subst h; rfl)
 ·rcases h with ((((((((((((h | h) | h) | h) | h) | h) | h) | h) | h) | h) | h) | h) | h) | h <;> (subst h; rfl)
 ·refine comment_no ?_
  rcases h with ((((((((((((h | h) | h) | h) | h) | h) | h) | h) | h) | h) | h) | h) | h) | h <;> (subst h; decide)
 ·have h2 : twoM ((c :: r).take 2) = false := by
   unfold twoM
   rw [decide_eq_false]
   cases r with
   | nil => simp
   | cons d r =>
    simp only [List.take_succ_cons, List.take_zero, List.cons.injEq, and_true]
    rcases h with ((((((((((((h | h) | h) | h) | h) | h) | h) | h) | h) | h) | h) | h) | h) | h <;> (subst h; simp)
  show (if twoM ((c :: r).take 2) then 2 else if markI (c.toNat : Int) then 1 else 0) = 1
  rw [h2]
  rcases h with ((((((((((((h | h) | h) | h) | h) | h) | h) | h) | h) | h) | h) | h) | h) | h <;> (subst h; rfl)
theorem lxs_mark2 {c d : UInt8} (h : twoM [c, d] = true) : Lxs true [c, d] [(4, mk [c, d])] := fun r a U _ hU => by
 have h' := h
 unfold twoM at h'
 simp only [decide_eq_true_eq, List.cons.injEq, and_true] at h'
 refine lxs_mark (c := c) (v := [d]) rfl ?_ ?_ ?_ ?_ hU
 ·rcases h' with h | h | h | h <;> (obtain ⟨rfl, rfl⟩ := h; rfl)
 ·rcases h' with h | h | h | h <;> (obtain ⟨rfl, rfl⟩ := h; rfl)
 ·refine comment_no ?_
  rcases h' with h | h | h | h <;> (obtain ⟨rfl, rfl⟩ := h; decide)
 ·show (if twoM ((c :: d :: r).take 2) then 2 else if markI (c.toNat : Int) then 1 else 0) = 2
  rw [show (c :: d :: r).take 2 = [c, d] from rfl, h]
  rfl
/-- a mark that could be the first of two, and is not -/
theorem mark_front {c d : UInt8} {r : Bs} {a : Nat} {U : List Tok} (hc : c = 61 ∨ c = 45 ∨ c = 47) (hd : twoM [c, d] = false) (hd2 : (d.toNat : Int) ≠ 47) (hU : Scan (d :: r) (a + 1) U) : ∃ V : List Tok, V.map Gr.kt = [(4, mk [c])] ∧ Scan (c :: d :: r) a (V ++ U) := by
 refine lxs_mark (m := [c]) (c := c) (v := []) rfl ?_ ?_ ?_ ?_ hU
 ·rcases hc with h | h | h <;> (subst h; rfl)
 ·rcases hc with h | h | h <;> (subst h; rfl)
 ·show decide ((c.toNat : Int) = 47 ∧ (d.toNat : Int) = 47) = false
  rw [decide_eq_false]
  exact fun e => hd2 e.2
 ·show (if twoM ((c :: d :: r).take 2) then 2 else if markI (c.toNat : Int) then 1 else 0) = 1
  rw [show (c :: d :: r).take 2 = [c, d] from rfl, hd]
  rcases hc with h | h | h <;> (subst h; rfl)
theorem lxs_markb {c : UInt8} (hc : c = 61 ∨ c = 45 ∨ c = 47) : Lxs true [c, 32] [(4, mk [c])] := fun r a U _ hU => by
 refine mark_front (c := c) (d := 32) (r := r) hc ?_ (by decide) (.blank 32 r _ U rfl ?_)
 ·rcases hc with h | h | h <;> (subst h; rfl)
 ·exact hU
/-- a sign before a piece -/
theorem lxs_minus {b : Bool} {d : UInt8} {s : Bs} {T : List KT} (hd : d ≠ 62) (hd2 : (d.toNat : Int) ≠ 47) (h : Lxs b (d :: s) T) : Lxs b (45 :: d :: s) ((4, mk [45]) :: T) := fun r a U hr hU => by
 obtain ⟨V, e, h1⟩ := h r (a + 1) U hr (by simp only [List.length_cons] at hU ⊢; rw [show a + 1 + (s.length + 1) = a + (s.length + 1 + 1) by omega]; exact hU)
 obtain ⟨W, e2, h2⟩ := mark_front (c := 45) (d := d) (r := s ++ r) (.inr (.inl rfl)) (by unfold twoM; rw [decide_eq_false]; simp [hd]) hd2 h1
 exact ⟨W ++ V, by rw [List.map_append, e2, e]; rfl, by rw [List.append_assoc]; exact h2⟩
/-- what a literal is read as -/
def lexC : Nat → Bs → Option (List KT × Bool)
 | 0, _ => none
 | f + 1, [] => some ([], true)
 | f + 1, c :: l =>
  if blankI (c.toNat : Int) then lexC f l
  else if runB c then
   match (c :: l).dropWhile runB with
   | [] => some ([(kindRun ((c :: l).takeWhile runB), mk ((c :: l).takeWhile runB))], false)
   | d :: r => match lexC f (d :: r) with
    | none => none
    | some (T, b) => some ((kindRun ((c :: l).takeWhile runB), mk ((c :: l).takeWhile runB)) :: T, b)
  else if safe1 c then
   match lexC f l with
   | none => none
   | some (T, b) => some ((4, mk [c]) :: T, b)
  else match l with
   | [] => none
   | d :: l =>
    if twoM [c, d] then
     match lexC f l with
     | none => none
     | some (T, b) => some ((4, mk [c, d]) :: T, b)
    else if d = 32 ∧ (c = 61 ∨ c = 45 ∨ c = 47) then
     match lexC f l with
     | none => none
     | some (T, b) => some ((4, mk [c]) :: T, b)
    else none
theorem lexC_sound : ∀ (f : Nat) (s : Bs) (T : List KT) (b : Bool), lexC f s = some (T, b) → Lxs b s T
 | 0, s, T, b, h => by cases h
 | f + 1, [], T, b, h => by
  simp only [lexC, Option.some.injEq, Prod.mk.injEq] at h
  obtain ⟨rfl, rfl⟩ := h
  exact lxs_nil
 | f + 1, c :: l, T, b, h => by
  unfold lexC at h
  split at h
  ·rename_i hb
   exact (lxs_blank hb).app (lexC_sound f l T b h) (.inl rfl)
  ·split at h
   ·rename_i hb hr
    have e := List.takeWhile_append_dropWhile (p := runB) (l := c :: l)
    have hne : (c :: l).takeWhile runB ≠ [] := by rw [List.takeWhile_cons, hr]; simp
    have hall : ∀ x ∈ (c :: l).takeWhile runB, runB x = true := fun x hx => by
     have := List.all_takeWhile (p := runB) (l := c :: l)
     exact List.all_eq_true.1 this x hx
    have hrun := lxs_run hne hall
    split at h
    ·rename_i hd
     simp only [Option.some.injEq, Prod.mk.injEq] at h
     obtain ⟨rfl, rfl⟩ := h
     rw [hd, List.append_nil] at e
     rw [e] at hrun ⊢
     exact hrun
    ·rename_i d r hd
     have hdr : runB d = false := by
      have h1 := List.head?_dropWhile_not runB (c :: l)
      rw [hd] at h1
      simpa using h1
     split at h
     ·cases h
     ·rename_i T' b' h'
      simp only [Option.some.injEq, Prod.mk.injEq] at h
      obtain ⟨rfl, rfl⟩ := h
      have h2 := hrun.app (lexC_sound f (d :: r) T' b' h') (.inr ⟨d, r, rfl, hdr⟩)
      rw [← hd, e] at h2
      exact h2
   ·split at h
    ·rename_i hs
     split at h
     ·cases h
     ·rename_i T' b' h'
      simp only [Option.some.injEq, Prod.mk.injEq] at h
      obtain ⟨rfl, rfl⟩ := h
      exact (lxs_mark1 hs).app (lexC_sound f l T' b' h') (.inl rfl)
    ·split at h
     ·cases h
     ·rename_i d l
      split at h
      ·rename_i h2
       split at h
       ·cases h
       ·rename_i T' b' h'
        simp only [Option.some.injEq, Prod.mk.injEq] at h
        obtain ⟨rfl, rfl⟩ := h
        exact (lxs_mark2 h2).app (lexC_sound f l T' b' h') (.inl rfl)
      ·split at h
       ·rename_i h3
        obtain ⟨rfl, h3⟩ := h3
        split at h
        ·cases h
        ·rename_i T' b' h'
         simp only [Option.some.injEq, Prod.mk.injEq] at h
         obtain ⟨rfl, rfl⟩ := h
         exact (lxs_markb h3).app (lexC_sound f l T' b' h') (.inl rfl)
       ·cases h
/-- a text of items has no errors -/
theorem mod_text {b : Bool} {s : ByteArray} {T : List KT} (h : Lxs b s.data.toList T) (hT : ItemsL T) (hs : s.size ≤ 20000) : ∃ ts, modOf s = some (ts, []) := by
 obtain ⟨V, e, h1⟩ := h [] 0 _ (.inr fun c l e => by cases e) (.fin _)
 rw [List.append_nil] at h1
 have h2 : tokList s = V ++ [⟨0, ByteArray.empty, ((0 + s.data.toList.length : Nat) : Int)⟩] := by
  unfold tokList
  rw [if_pos hs]
  exact (Lx.toks_scan s).det h1
 unfold modOf
 exact mod_items h2 rfl (by rw [e]; exact hT)
end Gr
end Go.Proofs.YtheigpiffdabnaaGreat
namespace Go.Proofs.YtheigpiffdabnaaGreat
open Go Go.RowKit
namespace Gr
open Lx
/-- a string that is read as one of these token lists, at all levels from n on -/
def Str (P : Nat → List KT → Prop) (n : Nat) (s : Bs) : Prop := ∃ T, Lxs false s T ∧ (∀ d, n ≤ d → P d T) ∧ ∃ c l, s = c :: l ∧ c ≠ 62 ∧ (c.toNat : Int) ≠ 47
theorem Lxs.lit {c : Bool} {l s : Bs} {T U : List KT} (f : Nat) (h : lexC f l = some (T, true)) (hs : Lxs c s U) : Lxs c (l ++ s) (T ++ U) := (lexC_sound f l T true h).app hs (.inl rfl)
theorem Lxs.hole {b c : Bool} {s t : Bs} {T U : List KT} (hs : Lxs b s T) (ht : Lxs c t U) {x : UInt8} {l : Bs} (e : t = x :: l) (hx : runB x = false) : Lxs c (s ++ t) (T ++ U) := hs.app ht (.inr ⟨x, l, e, hx⟩)
theorem Lxs.weak {s : Bs} {T : List KT} (h : Lxs true s T) : Lxs false s T := fun r a U hr hU => h r a U (.inl rfl) hU
theorem Str.mono {P : Nat → List KT → Prop} {m n : Nat} {s : Bs} (h : Str P m s) (hn : m ≤ n) : Str P n s := by
 obtain ⟨T, h1, h2, h3⟩ := h
 exact ⟨T, h1, fun d hd => h2 d (Nat.le_trans hn hd), h3⟩
theorem Str.sum {n : Nat} {s : Bs} (h : Str UnL n s) : Str SumL n s := by
 obtain ⟨T, h1, h2, h3⟩ := h
 exact ⟨T, h1, fun d hd => (h2 d hd).sum, h3⟩
/-- a name, as it is written -/
structure NameS (w : Bs) : Prop where
 ne : w ≠ []
 run : ∀ c ∈ w, runB c = true
 kind : kindRun w = 1
 hd : mk w ∉ HdF ++ Vun
theorem run_head {w : Bs} (h0 : w ≠ []) (h : ∀ c ∈ w, runB c = true) : ∃ c l, w = c :: l ∧ c ≠ 62 ∧ (c.toNat : Int) ≠ 47 := by
 cases w with
 | nil => exact absurd rfl h0
 | cons c l =>
  have h1 := h c (by simp)
  refine ⟨c, l, rfl, fun e => ?_, (run_plain h1).2⟩
  rw [e] at h1
  exact absurd h1 (by decide)
theorem str_name {w : Bs} (h : NameS w) : Str UnL 0 w := by
 refine ⟨[(1, mk w)], ?_, fun d _ => ⟨un_post (fun e => h.hd (List.mem_append_right _ e)) (post_of pr_name), .one (fun e => h.hd (List.mem_append_left _ e)) nil_head⟩, run_head h.ne h.run⟩
 have := lxs_run h.ne h.run
 rw [h.kind] at this
 exact this
/-- a number, as it is written -/
structure NumS (w : Bs) : Prop where
 ne : w ≠ []
 run : ∀ c ∈ w, runB c = true
 kind : kindRun w = 3
 hd : mk w ∉ HdF ++ Vun
theorem str_num {w : Bs} (h : NumS w) : Str UnL 0 w := by
 refine ⟨[(3, mk w)], ?_, fun d _ => ⟨un_post (fun e => h.hd (List.mem_append_right _ e)) ((post_of pr_int).mono fun v hv => hv), .one (fun e => h.hd (List.mem_append_left _ e)) nil_head⟩, run_head h.ne h.run⟩
 have := lxs_run h.ne h.run
 rw [h.kind] at this
 exact this
theorem str_minus {n : Nat} {s : Bs} (h : Str UnL n s) : Str UnL (n + 1) ([45] ++ s) := by
 obtain ⟨T, h1, h2, c, l, rfl, h3, h4⟩ := h
 refine ⟨(4, ⟨#[45]⟩) :: T, lxs_minus h3 h4 h1, fun d hd => ?_, 45, c :: l, rfl, by decide, by decide⟩
 obtain ⟨d, rfl⟩ : ∃ e, d = e + 1 := ⟨d - 1, by omega⟩
 exact un_sign (isin (by decide)) (h2 d (by omega))
/-- parentheses -/
theorem str_paren {n : Nat} {s : Bs} {P : Nat → List KT → Prop} (hP : ∀ d T, P d T → ExT (d + 1) T) (h : Str P n s) : Str UnL (n + 1) ([40] ++ (s ++ [41])) := by
 obtain ⟨T, h1, h2, c, l, rfl, h3, h4⟩ := h
 refine ⟨[(4, ⟨#[40]⟩)] ++ (T ++ [(4, ⟨#[41]⟩)]), Lxs.lit 3 rfl (Lxs.hole h1 (lexC_sound 3 [41] _ true rfl).weak rfl rfl), fun d hd => ?_, 40, _, rfl, by decide, by decide⟩
 obtain ⟨d, rfl⟩ : ∃ e, d = e + 1 := ⟨d - 1, by omega⟩
 have hE := hP d T (h2 d (by omega))
 refine ⟨un_post (notin rfl) (post_of (pr_paren (by decide) (by decide) hE)), .one (notin rfl) ?_⟩
 exact (hE.hd.app (cons_head (noteq rfl))).head
end Gr
end Go.Proofs.YtheigpiffdabnaaGreat
namespace Go.Proofs.YtheigpiffdabnaaGreat
open Go Go.RowKit
namespace Gr
open Lx
theorem NameS.lxs {w : Bs} (h : NameS w) : Lxs false w [(1, Lx.mk w)] := by
 have := lxs_run h.ne h.run
 rw [h.kind] at this
 exact this
theorem arg_head {d : Nat} {T : List KT} (h : ExT d T) : ∃ x U, T = x :: U ∧ x.2 ≠ ⟨#[41]⟩ := by
 obtain ⟨x, U, rfl, hx, -⟩ := h.hd
 exact ⟨x, U, rfl, fun e => hx (e ▸ isin (by decide))⟩
theorem args1 {d : Nat} {T : List KT} (h : ExT d T) : ArgL (ExT d) T := by
 obtain ⟨x, U, rfl, hx⟩ := arg_head h
 exact .some (.one h) hx
theorem args2 {d : Nat} {k : Int} {T U : List KT} (h : ExT d T) (hU : ExT d U) : ArgL (ExT d) (T ++ (k, ⟨#[44]⟩) :: U) := by
 obtain ⟨x, V, rfl, hx⟩ := arg_head h
 exact .some (.cons h (by simp) (.one hU)) hx
theorem NameS.hdF {w : Bs} (h : NameS w) : Lx.mk w ∉ HdF := fun e => h.hd (List.mem_append_left _ e)
theorem NameS.un {w : Bs} (h : NameS w) : Lx.mk w ∉ Vun := fun e => h.hd (List.mem_append_right _ e)
theorem str_call1 {n : Nat} {f s : Bs} (hf : NameS f) (h : Str SumL n s) : Str UnL (n + 1) (f ++ ([40] ++ (s ++ [41]))) := by
 obtain ⟨T, h1, h2, -⟩ := h
 obtain ⟨c, l, e, hc⟩ := run_head hf.ne hf.run
 refine ⟨[(1, mk f)] ++ ([(4, ⟨#[40]⟩)] ++ (T ++ [(4, ⟨#[41]⟩)])), hf.lxs.hole (Lxs.lit 3 rfl (Lxs.hole h1 (lexC_sound 3 [41] _ true rfl).weak rfl rfl)) rfl rfl, fun d hd => ?_, c, _, by rw [e]; rfl, hc⟩
 obtain ⟨d, rfl⟩ : ∃ e, d = e + 1 := ⟨d - 1, by omega⟩
 exact ⟨un_post hf.un (post_of (pr_call (args1 (h2 d (by omega)).ex.t))), .one hf.hdF (cons_head (noteq rfl))⟩
theorem str_call2 {n : Nat} {f s t : Bs} (hf : NameS f) (h : Str SumL n s) (ht : Str SumL n t) : Str UnL (n + 1) (f ++ ([40] ++ (s ++ ([44, 32] ++ (t ++ [41]))))) := by
 obtain ⟨T, h1, h2, -⟩ := h
 obtain ⟨U, k1, k2, -⟩ := ht
 obtain ⟨c, l, e, hc⟩ := run_head hf.ne hf.run
 refine ⟨[(1, mk f)] ++ ([(4, ⟨#[40]⟩)] ++ (T ++ ([(4, ⟨#[44]⟩)] ++ (U ++ [(4, ⟨#[41]⟩)])))), hf.lxs.hole (Lxs.lit 3 rfl (Lxs.hole h1 (Lxs.lit 4 rfl (Lxs.hole k1 (lexC_sound 3 [41] _ true rfl).weak rfl rfl)) rfl rfl)) rfl rfl, fun d hd => ?_, c, _, by rw [e]; rfl, hc⟩
 obtain ⟨d, rfl⟩ : ∃ e, d = e + 1 := ⟨d - 1, by omega⟩
 have := pr_call (d := d + 1) (s := mk f) (k := 4) (l := 4) (args2 (k := 4) (h2 d (by omega)).ex.t (k2 d (by omega)).ex.t)
 rw [show (T ++ (4, (⟨#[44]⟩ : ByteArray)) :: U) ++ [(4, (⟨#[41]⟩ : ByteArray))] = T ++ ([(4, ⟨#[44]⟩)] ++ (U ++ [(4, ⟨#[41]⟩)])) by simp] at this
 exact ⟨un_post hf.un (post_of this), .one hf.hdF (cons_head (noteq rfl))⟩
theorem str_expand {n : Nat} {f s : Bs} (hf : NameS f) (h : Str SumL n s) : Str UnL (n + 1) (f ++ ([33, 40] ++ (s ++ [41]))) := by
 obtain ⟨T, h1, h2, -⟩ := h
 obtain ⟨c, l, e, hc⟩ := run_head hf.ne hf.run
 refine ⟨[(1, mk f)] ++ ([(4, ⟨#[33]⟩), (4, ⟨#[40]⟩)] ++ (T ++ [(4, ⟨#[41]⟩)])), hf.lxs.hole (Lxs.lit 3 rfl (Lxs.hole h1 (lexC_sound 3 [41] _ true rfl).weak rfl rfl)) rfl rfl, fun d hd => ?_, c, _, by rw [e]; rfl, hc⟩
 obtain ⟨d, rfl⟩ : ∃ e, d = e + 1 := ⟨d - 1, by omega⟩
 exact ⟨un_post hf.un (post_of (pr_expand (args1 (h2 d (by omega)).ex.t))), .one hf.hdF (cons_head (noteq rfl))⟩
/-- a new record of one field -/
theorem str_new1 {n : Nat} {f s : Bs} (hf : NameS f) (h : Str SumL n s) : Str UnL (n + 1) ([110, 101, 119, 32] ++ (f ++ ([40] ++ (s ++ [41])))) := by
 obtain ⟨T, h1, h2, -⟩ := h
 refine ⟨[(2, ⟨#[110, 101, 119]⟩)] ++ ([(1, mk f)] ++ ([(4, ⟨#[40]⟩)] ++ (T ++ [(4, ⟨#[41]⟩)]))), Lxs.lit 9 rfl (hf.lxs.hole (Lxs.lit 3 rfl (Lxs.hole h1 (lexC_sound 3 [41] _ true rfl).weak rfl rfl)) rfl rfl), fun d hd => ?_, 110, _, rfl, by decide, by decide⟩
 obtain ⟨d, rfl⟩ : ∃ e, d = e + 1 := ⟨d - 1, by omega⟩
 exact ⟨un_post (notin rfl) (post_of (pr_new (by decide) (by decide) (args1 (h2 d (by omega)).ex.t))), .one (notin rfl) (cons_head fun e => hf.hdF (show mk f ∈ HdF from (show mk f = _ from e) ▸ isin (by decide)))⟩
theorem str_new2 {n : Nat} {f s t : Bs} (hf : NameS f) (h : Str SumL n s) (ht : Str SumL n t) : Str UnL (n + 1) ([110, 101, 119, 32] ++ (f ++ ([40] ++ (s ++ ([44, 32] ++ (t ++ [41])))))) := by
 obtain ⟨T, h1, h2, -⟩ := h
 obtain ⟨U, k1, k2, -⟩ := ht
 refine ⟨[(2, ⟨#[110, 101, 119]⟩)] ++ ([(1, mk f)] ++ ([(4, ⟨#[40]⟩)] ++ (T ++ ([(4, ⟨#[44]⟩)] ++ (U ++ [(4, ⟨#[41]⟩)]))))), Lxs.lit 9 rfl (hf.lxs.hole (Lxs.lit 3 rfl (Lxs.hole h1 (Lxs.lit 4 rfl (Lxs.hole k1 (lexC_sound 3 [41] _ true rfl).weak rfl rfl)) rfl rfl)) rfl rfl), fun d hd => ?_, 110, _, rfl, by decide, by decide⟩
 obtain ⟨d, rfl⟩ : ∃ e, d = e + 1 := ⟨d - 1, by omega⟩
 have := pr_new (d := d + 1) (s := mk f) (k := 2) (m := 4) (l := 4) (by decide) (by decide) (args2 (k := 4) (h2 d (by omega)).ex.t (k2 d (by omega)).ex.t)
 rw [show (T ++ (4, (⟨#[44]⟩ : ByteArray)) :: U) ++ [(4, (⟨#[41]⟩ : ByteArray))] = T ++ ([(4, ⟨#[44]⟩)] ++ (U ++ [(4, ⟨#[41]⟩)])) by simp] at this
 exact ⟨un_post (notin rfl) (post_of this), .one (notin rfl) (cons_head fun e => hf.hdF (show mk f ∈ HdF from (show mk f = _ from e) ▸ isin (by decide)))⟩
end Gr
end Go.Proofs.YtheigpiffdabnaaGreat
namespace Go.Proofs.YtheigpiffdabnaaGreat
open Go Go.RowKit
namespace Gr
open Lx
theorem UnL.rel {d : Nat} {T : List KT} (h : UnL d T) : RelL d T := .one h.sum
theorem str_rel {n : Nat} {s t o : Bs} {g : ByteArray} (hg : g ∈ Vrel) (ho : lexC 5 o = some ([(4, g)], true)) {x : UInt8} {l : Bs} (e : o = x :: l) (hx : runB x = false) (h : Str SumL n s) (ht : Str SumL n t) : Str ExL n (s ++ (o ++ t)) := by
 obtain ⟨T, h1, h2, c, m, rfl, h3, h4⟩ := h
 obtain ⟨U, k1, k2, -⟩ := ht
 exact ⟨T ++ ([(4, g)] ++ U), Lxs.hole h1 (Lxs.lit 5 ho k1) (by rw [e]; rfl) hx, fun d hd => .one (.one (.two (h2 d hd) hg (k2 d hd))), c, _, rfl, h3, h4⟩
/-- a truth value -/
theorem un_bool {d : Nat} {s : ByteArray} (hs : s = ⟨#[116, 114, 117, 101]⟩ ∨ s = ⟨#[102, 97, 108, 115, 101]⟩) : UnL d [(2, s)] := by
 refine ⟨un_post ?_ ((post_of (pr_bool (by decide) (by decide) hs)).mono fun v hv => hv), .one ?_ nil_head⟩
 ·rcases hs with rfl | rfl <;> exact notin rfl
 ·rcases hs with rfl | rfl <;> exact notin rfl
theorem lxs_true : Lxs false [116, 114, 117, 101] [(2, ⟨#[116, 114, 117, 101]⟩)] := lexC_sound 9 _ _ false rfl
theorem lxs_false : Lxs false [102, 97, 108, 115, 101] [(2, ⟨#[102, 97, 108, 115, 101]⟩)] := lexC_sound 9 _ _ false rfl
theorem str_true : Str ExL 0 [116, 114, 117, 101] := ⟨_, lxs_true, fun d _ => (un_bool (.inl rfl)).sum.ex, 116, _, rfl, by decide, by decide⟩
theorem str_false : Str ExL 0 [102, 97, 108, 115, 101] := ⟨_, lxs_false, fun d _ => (un_bool (.inr rfl)).sum.ex, 102, _, rfl, by decide, by decide⟩
/-- a condition, and true -/
theorem str_and {n : Nat} {s : Bs} (h : Str UnL n s) : Str ExL n (s ++ [32, 38, 38, 32, 116, 114, 117, 101]) := by
 obtain ⟨T, h1, h2, c, m, rfl, h3, h4⟩ := h
 exact ⟨T ++ [(4, ⟨#[38, 38]⟩), (2, ⟨#[116, 114, 117, 101]⟩)], Lxs.hole h1 (lexC_sound 9 _ _ false rfl) rfl rfl, fun d hd => .one (.cons (h2 d hd).rel (isin (by decide)) (.one (un_bool (.inl rfl)).rel)), c, _, rfl, h3, h4⟩
theorem str_or {n : Nat} {s : Bs} (h : Str UnL n s) : Str ExL n (s ++ [32, 124, 124, 32, 116, 114, 117, 101]) := by
 obtain ⟨T, h1, h2, c, m, rfl, h3, h4⟩ := h
 exact ⟨T ++ [(4, ⟨#[124, 124]⟩), (2, ⟨#[116, 114, 117, 101]⟩)], Lxs.hole h1 (lexC_sound 9 _ _ false rfl) rfl rfl, fun d hd => .cons (.one (h2 d hd).rel) (isin (by decide)) (.one (.one (un_bool (.inl rfl)).rel)), c, _, rfl, h3, h4⟩
theorem str_not {n : Nat} {s : Bs} (h : Str UnL n s) : Str UnL (n + 1) ([33] ++ s) := by
 obtain ⟨T, h1, h2, -⟩ := h
 refine ⟨[(4, ⟨#[33]⟩)] ++ T, Lxs.lit 3 rfl h1, fun d hd => ?_, 33, s, rfl, by decide, by decide⟩
 obtain ⟨d, rfl⟩ : ∃ e, d = e + 1 := ⟨d - 1, by omega⟩
 exact un_sign (isin (by decide)) (h2 d (by omega))
/-- what is in a block, up to its end -/
def BodyS (n : Nat) (s : Bs) : Prop := ∃ T, Lxs true s T ∧ ∀ d, n ≤ d → BodyL d T
theorem BodyS.mono {m n : Nat} {s : Bs} (h : BodyS m s) (hn : m ≤ n) : BodyS n s := by
 obtain ⟨T, h1, h2⟩ := h
 exact ⟨T, h1, fun d hd => h2 d (Nat.le_trans hn hd)⟩
theorem body_fin : BodyS 0 [125] := ⟨_, lexC_sound 3 [125] _ true rfl, fun d _ => .fin 4⟩
theorem sum_ext {n : Nat} {T : List KT} (h : ∀ d, n ≤ d → SumL d T) : ∀ d, n + 1 ≤ d → ExT d T := fun d hd => by
 obtain ⟨d, rfl⟩ : ∃ e, d = e + 1 := ⟨d - 1, by omega⟩
 exact (h d (by omega)).ex.t
theorem ex_ext {n : Nat} {T : List KT} (h : ∀ d, n ≤ d → ExL d T) : ∀ d, n + 1 ≤ d → ExT d T := fun d hd => by
 obtain ⟨d, rfl⟩ : ∃ e, d = e + 1 := ⟨d - 1, by omega⟩
 exact (h d (by omega)).t
theorem body_val {n : Nat} {s : Bs} (h : Str SumL n s) : BodyS (n + 1) (s ++ [32, 125]) := by
 obtain ⟨T, h1, h2, -⟩ := h
 exact ⟨T ++ [(4, ⟨#[125]⟩)], Lxs.hole h1 (lexC_sound 4 [32, 125] _ true rfl) rfl rfl, fun d hd => .val (sum_ext h2 d hd) 4⟩
theorem body_let {n : Nat} {v s b : Bs} (hv : NameS v) (h : Str SumL n s) (hb : BodyS (n + 1) b) : BodyS (n + 1) ([108, 101, 116, 32] ++ (v ++ ([32, 61, 32] ++ (s ++ ([59, 32] ++ b))))) := by
 obtain ⟨T, h1, h2, -⟩ := h
 obtain ⟨U, k1, k2⟩ := hb
 refine ⟨[(2, ⟨#[108, 101, 116]⟩)] ++ ([(1, mk v)] ++ ([(4, ⟨#[61]⟩)] ++ (T ++ ([(4, ⟨#[59]⟩)] ++ U)))), Lxs.lit 9 rfl (hv.lxs.hole (Lxs.lit 5 rfl (Lxs.hole h1 (Lxs.lit 4 rfl k1) rfl rfl)) rfl rfl), fun d hd => ?_⟩
 have := BodyL.st (st_let (k := 2) (l := 4) (m := 4) (s := mk v) (sum_ext h2 d hd)) (k2 d hd)
 simpa using this
theorem body_assign {n : Nat} {v s b : Bs} (hv : NameS v) (h : Str SumL n s) (hb : BodyS (n + 1) b) : BodyS (n + 1) (v ++ ([32, 61, 32] ++ (s ++ ([59, 32] ++ b)))) := by
 obtain ⟨T, h1, h2, -⟩ := h
 obtain ⟨U, k1, k2⟩ := hb
 refine ⟨[(1, mk v)] ++ ([(4, ⟨#[61]⟩)] ++ (T ++ ([(4, ⟨#[59]⟩)] ++ U))), hv.lxs.hole (Lxs.lit 5 rfl (Lxs.hole h1 (Lxs.lit 4 rfl k1) rfl rfl)) rfl rfl, fun d hd => ?_⟩
 have := BodyL.st (st_assign (l := 4) (m := 4) hv.hdF (sum_ext h2 d hd)) (k2 d hd)
 simpa using this
theorem body_print {n : Nat} {s b : Bs} (h : Str SumL n s) (hb : BodyS (n + 1) b) : BodyS (n + 1) ([112, 114, 105, 110, 116, 32] ++ (s ++ ([59, 32] ++ b))) := by
 obtain ⟨T, h1, h2, -⟩ := h
 obtain ⟨U, k1, k2⟩ := hb
 refine ⟨[(2, ⟨#[112, 114, 105, 110, 116]⟩)] ++ (T ++ ([(4, ⟨#[59]⟩)] ++ U)), Lxs.lit 9 rfl (Lxs.hole h1 (Lxs.lit 4 rfl k1) rfl rfl), fun d hd => ?_⟩
 have := BodyL.st (st_print (k := 2) (m := 4) (sum_ext h2 d hd)) (k2 d hd)
 simpa using this
theorem body_while {n : Nat} {c s b : Bs} (h : Str ExL n c) (hs : BodyS n s) (hb : BodyS (n + 1) b) : BodyS (n + 1) ([119, 104, 105, 108, 101, 32] ++ (c ++ ([32, 123, 32] ++ (s ++ ([32] ++ b))))) := by
 obtain ⟨T, h1, h2, -⟩ := h
 obtain ⟨S, g1, g2⟩ := hs
 obtain ⟨U, k1, k2⟩ := hb
 refine ⟨[(2, ⟨#[119, 104, 105, 108, 101]⟩)] ++ (T ++ ([(4, ⟨#[123]⟩)] ++ (S ++ ([] ++ U)))), Lxs.lit 9 rfl (Lxs.hole h1 (Lxs.lit 5 rfl (g1.app (Lxs.lit 3 rfl k1) (.inl rfl))) rfl rfl), fun d hd => ?_⟩
 have hE := ex_ext h2 d hd
 obtain ⟨d, rfl⟩ : ∃ e, d = e + 1 := ⟨d - 1, by omega⟩
 have := BodyL.st (st_while (k := 2) hE (blk_of (k := 4) (by decide) (by decide) (g2 d (by omega)))) (k2 (d + 1) hd)
 simpa using this
theorem BlkT.hd {d : Nat} {T : List KT} (h : BlkT d T) : Hd T := by
 obtain ⟨k, U, rfl, -, -, hU, -⟩ := h
 exact .one (notin rfl) hU
theorem str_block {n : Nat} {b : Bs} (h : BodyS n b) : Str UnL n ([123, 32] ++ b) := by
 obtain ⟨T, h1, h2⟩ := h
 refine ⟨[(4, ⟨#[123]⟩)] ++ T, (Lxs.lit 4 rfl h1).weak, fun d hd => ?_, 123, _, rfl, by decide, by decide⟩
 have hB := blk_of (k := 4) (by decide) (by decide) (h2 d hd)
 exact ⟨un_post (notin rfl) (post_of (pr_block hB)), hB.hd⟩
/-- a choice -/
theorem str_if {n : Nat} {c s t : Bs} (hc : Str ExL (n + 1) c) (h : Str SumL n s) (ht : Str SumL n t) : Str UnL (n + 2) ([105, 102, 32] ++ (c ++ ([32, 123, 32] ++ (s ++ ([32, 125, 32, 101, 108, 115, 101, 32, 123, 32] ++ (t ++ [32, 125])))))) := by
 obtain ⟨C, c1, c2, -⟩ := hc
 obtain ⟨T, h1, h2, -⟩ := h
 obtain ⟨U, k1, k2, -⟩ := ht
 refine ⟨[(2, ⟨#[105, 102]⟩)] ++ (C ++ ([(4, ⟨#[123]⟩)] ++ (T ++ ([(4, ⟨#[125]⟩), (2, ⟨#[101, 108, 115, 101]⟩), (4, ⟨#[123]⟩)] ++ (U ++ [(4, ⟨#[125]⟩)]))))), Lxs.lit 9 rfl (Lxs.hole c1 (Lxs.lit 5 rfl (Lxs.hole h1 (Lxs.lit 16 rfl (Lxs.hole k1 (lexC_sound 4 [32, 125] _ true rfl).weak rfl rfl)) rfl rfl)) rfl rfl), fun d hd => ?_, 105, _, rfl, by decide, by decide⟩
 have hC := ex_ext c2 d hd
 obtain ⟨d, rfl⟩ : ∃ e, d = e + 1 := ⟨d - 1, by omega⟩
 have b1 := blk_of (k := 4) (by decide) (by decide) (BodyL.val (sum_ext h2 d (by omega)) 4)
 have b2 := blk_of (k := 4) (by decide) (by decide) (BodyL.val (sum_ext k2 d (by omega)) 4)
 have := pr_if (k := 2) (l := 2) (by decide) (by decide) hC b1 b2
 refine ⟨un_post (notin rfl) (post_of ?_), .one (notin rfl) (hC.hd.app (cons_head (noteq rfl))).head⟩
 simpa using this
end Gr
end Go.Proofs.YtheigpiffdabnaaGreat
