/-
  PLAIN: token lists that are exprs, blocks and items: what the plain readers read of them (for texts that are made).
-/
import Derived.Test.YtheigpiffdabnaaGreatZP1
set_option linter.unusedSectionVars false
set_option linter.unusedSimpArgs false
set_option linter.unusedVariables false
namespace Go.Proofs.YtheigpiffdabnaaGreat
open Go Go.RowKit
namespace Gr
theorem notin {t : ByteArray} {V : List ByteArray} (h : (V.all fun v => decide (t.data.toList ≠ v.data.toList)) = true) : t ∉ V := fun hm => by
 have := List.all_eq_true.1 h _ hm
 simp at this
theorem notins {V F : List ByteArray} (h : (V.all fun v => F.all fun u => decide (v.data.toList ≠ u.data.toList)) = true) : ∀ v ∈ V, v ∉ F := fun v hv => notin (List.all_eq_true.1 h _ hv)
theorem isin {t : ByteArray} {V : List ByteArray} (h : (V.any fun v => decide (t.data.toList = v.data.toList)) = true) : t ∈ V := by
 obtain ⟨v, hv, e⟩ := List.any_eq_true.1 h
 obtain ⟨⟨x⟩⟩ := t
 obtain ⟨⟨y⟩⟩ := v
 simp only [decide_eq_true_eq] at e
 exact e ▸ hv
theorem noteq {t u : ByteArray} (h : decide (t.data.toList ≠ u.data.toList) = true) : t ≠ u := fun e => by
 rw [e] at h
 simp at h
/-- a token's kind and text -/
abbrev KT := Int × ByteArray
/-- these tokens come next -/
def LiesT (r : Rdr) : Nat → List KT → Prop
 | _, [] => True
 | i, x :: T => (i < r.L.length ∧ (r.L.getD i tok0).kind = x.1 ∧ (r.L.getD i tok0).text = x.2) ∧ LiesT r (i + 1) T
theorem LiesT.app {r : Rdr} : ∀ {T U : List KT} {i : Nat}, LiesT r i (T ++ U) → LiesT r i T ∧ LiesT r (i + T.length) U
 | [], U, i, h => ⟨trivial, h⟩
 | x :: T, U, i, h => by
  obtain ⟨h1, h2⟩ := h
  obtain ⟨h3, h4⟩ := LiesT.app h2
  refine ⟨⟨h1, h3⟩, ?_⟩
  rw [List.length_cons, show i + (T.length + 1) = i + 1 + T.length by omega]
  exact h4
theorem LiesT.le {r : Rdr} : ∀ {T : List KT} {i : Nat}, LiesT r i T → i ≤ r.L.length → i + T.length ≤ r.L.length
 | [], i, h, hi => by simpa using hi
 | x :: T, i, h, hi => by
  have := LiesT.le h.2 h.1.1
  rw [List.length_cons]; omega
theorem text_eq {t u : ByteArray} : t.toList = u.toList ↔ t = u := by
 rw [ByteArray.toList_eq, ByteArray.toList_eq]
 constructor
 ·intro h
  obtain ⟨⟨a⟩⟩ := t
  obtain ⟨⟨b⟩⟩ := u
  simp only at h
  rw [h]
 ·intro h; rw [h]
theorem hit_out {t : ByteArray} {V : List ByteArray} (h : t ∉ V) : hit t V = false := by
 unfold hit
 rw [Bool.eq_false_iff]
 intro h2
 obtain ⟨v, hv, e⟩ := List.any_eq_true.1 h2
 rw [beq_iff_eq, text_eq] at e
 exact h (e ▸ hv)
theorem hit_in {t : ByteArray} {V : List ByteArray} (h : t ∈ V) : hit t V = true := List.any_eq_true.2 ⟨t, h, by simp⟩
theorem mark_in {r : Rdr} {i : Nat} {sg : ByteArray} (h : (r.L.getD i tok0).text = sg) : isMark r i sg = true := by unfold isMark; rw [h]; simp
theorem mark_out {r : Rdr} {i : Nat} {sg : ByteArray} (h : (r.L.getD i tok0).text ≠ sg) : isMark r i sg = false := by
 unfold isMark
 rw [Bool.eq_false_iff]
 intro h2
 rw [beq_iff_eq, text_eq] at h2
 exact h h2
theorem isB_in {t u : ByteArray} (h : t = u) : isB t u = true := by unfold isB; rw [h]; simp
theorem isB_out {t u : ByteArray} (h : t ≠ u) : isB t u = false := by
 unfold isB
 rw [Bool.eq_false_iff]
 intro h2
 rw [beq_iff_eq, text_eq] at h2
 exact h h2
/-- it reads all these tokens, where none of F follows -/
def Rd {α : Type} (p : Rdr → PM α) (F : List ByteArray) (T : List KT) : Prop := ∀ r i, LiesT r i T → (r.L.getD (i + T.length) tok0).text ∉ F → ∃ t, p r i = .ok (t, i + T.length)
theorem Rd.mono {α : Type} {p : Rdr → PM α} {F G : List ByteArray} {T : List KT} (h : Rd p F T) (hs : ∀ v ∈ F, v ∈ G) : Rd p G T := fun r i hT hG => h r i hT fun hf => hG (hs _ hf)
theorem bindM_step {α β : Type} {p : PM α} {f : α → PM β} {i j : Nat} {x : α} (hp : p i = .ok (x, j)) : bindM p f i = f x j := by unfold bindM; rw [hp]
/-- the first part, where the second begins -/
theorem Rd.bind {α β : Type} {p : Rdr → PM α} {q : Rdr → α → PM β} {F G : List ByteArray} {T : List KT} {x : KT} {U : List KT} (h : Rd p F T) (hx : x.2 ∉ F) (hq : ∀ t, Rd (fun r => q r t) G (x :: U)) : Rd (fun r => bindM (p r) (q r)) G (T ++ x :: U) := fun r i hT hG => by
 obtain ⟨h1, h2⟩ := hT.app
 obtain ⟨t, ht⟩ := h r i h1 (by rw [h2.1.2.2]; exact hx)
 rw [List.length_append, ← Nat.add_assoc] at hG
 obtain ⟨u, hu⟩ := hq t r _ h2 hG
 refine ⟨u, ?_⟩
 rw [List.length_append, ← Nat.add_assoc, ← hu]
 exact bindM_step ht
/-- all of it is the first part's, and the second takes nothing -/
theorem Rd.last {α β : Type} {p : Rdr → PM α} {q : Rdr → α → PM β} {F G : List ByteArray} {T : List KT} (h : Rd p F T) (hq : ∀ t, Rd (fun r => q r t) G []) : Rd (fun r => bindM (p r) (q r)) (F ++ G) T := fun r i hT hG => by
 obtain ⟨t, ht⟩ := h r i hT fun hf => hG (List.mem_append_left _ hf)
 obtain ⟨u, hu⟩ := hq t r (i + T.length) trivial (by simpa using fun hf => hG (List.mem_append_right _ hf))
 exact ⟨u, (bindM_step ht).trans hu⟩
/-- what looks only -/
theorem Rd.look {α β : Type} {p : Rdr → PM α} {q : Rdr → α → PM β} {G : List ByteArray} {T : List KT} (h : ∀ r i, ∃ a, p r i = .ok (a, i)) (hq : ∀ t, Rd (fun r => q r t) G T) : Rd (fun r => bindM (p r) (q r)) G T := fun r i hT hG => by
 obtain ⟨a, ha⟩ := h r i
 obtain ⟨u, hu⟩ := hq a r i hT hG
 exact ⟨u, by rw [← hu]; exact bindM_step ha⟩
theorem Rd.here {β : Type} {q : Rdr → Int → PM β} {G : List ByteArray} {T : List KT} (hq : ∀ t, Rd (fun r => q r t) G T) : Rd (fun r => bindM (hereM r) (q r)) G T := Rd.look (fun r i => ⟨_, rfl⟩) hq
theorem rd_pure {α : Type} {F : List ByteArray} {x : α} : Rd (fun r => pureM x) F [] := fun r i _ _ => ⟨x, rfl⟩
theorem rd_nd {F : List ByteArray} {k : Int} {t : ByteArray} {a : Int} {l : List Tree} : Rd (fun r => ndM k t a l) F [] := fun r i _ _ => ⟨_, rfl⟩
/-- a mark or a word that must come -/
theorem Rd.need {β : Type} {q : Rdr → Unit → PM β} {G : List ByteArray} {k : Int} {sg : ByteArray} {T : List KT} (hq : Rd (fun r => q r ()) G T) : Rd (fun r => bindM (needM r sg) (q r)) G ((k, sg) :: T) := fun r i hT hG => by
 rw [List.length_cons, show i + (T.length + 1) = i + 1 + T.length by omega] at hG ⊢
 obtain ⟨u, hu⟩ := hq r (i + 1) hT.2 hG
 refine ⟨u, ?_⟩
 rw [← hu]
 refine bindM_step ?_
 unfold needM
 rw [if_pos (mark_in hT.1.2.2)]
theorem Rd.name {β : Type} {q : Rdr → ByteArray → PM β} {G : List ByteArray} {s : ByteArray} {T : List KT} (hq : ∀ t, Rd (fun r => q r t) G T) : Rd (fun r => bindM (nameM r) (q r)) G ((1, s) :: T) := fun r i hT hG => by
 rw [List.length_cons, show i + (T.length + 1) = i + 1 + T.length by omega] at hG ⊢
 obtain ⟨u, hu⟩ := hq (r.L.getD i tok0).text r (i + 1) hT.2 hG
 exact ⟨u, (bindM_step (by unfold nameM; rw [if_pos hT.1.2.1])).trans hu⟩
theorem Rd.take {β : Type} {q : Rdr → Lx.Tok → PM β} {G : List ByteArray} {x : KT} {T : List KT} (hq : ∀ t, Rd (fun r => q r t) G T) : Rd (fun r => bindM (takeM r) (q r)) G (x :: T) := fun r i hT hG => by
 rw [List.length_cons, show i + (T.length + 1) = i + 1 + T.length by omega] at hG ⊢
 obtain ⟨u, hu⟩ := hq (r.L.getD i tok0) r (i + 1) hT.2 hG
 exact ⟨u, (bindM_step (j := i + 1) rfl).trans hu⟩
/-- the token that comes -/
theorem Rd.tok {β : Type} {q : Rdr → Lx.Tok → PM β} {G : List ByteArray} {x : KT} {T : List KT} (hq : ∀ t : Lx.Tok, t.kind = x.1 → t.text = x.2 → Rd (fun r => q r t) G (x :: T)) : Rd (fun r => bindM (tokM r) (q r)) G (x :: T) := fun r i hT hG => by
 obtain ⟨u, hu⟩ := hq _ hT.1.2.1 hT.1.2.2 r i hT hG
 exact ⟨u, by rw [← hu]; exact bindM_step rfl⟩
theorem Rd.is_in {β : Type} {q : Rdr → Bool → PM β} {G : List ByteArray} {k : Int} {sg : ByteArray} {T : List KT} (hq : Rd (fun r => q r true) G ((k, sg) :: T)) : Rd (fun r => bindM (isM r sg) (q r)) G ((k, sg) :: T) := fun r i hT hG => by
 obtain ⟨u, hu⟩ := hq r i hT hG
 exact ⟨u, (bindM_step (by unfold isM; rw [mark_in hT.1.2.2])).trans hu⟩
theorem Rd.is_out {β : Type} {q : Rdr → Bool → PM β} {G : List ByteArray} {x : KT} {sg : ByteArray} {T : List KT} (hx : x.2 ≠ sg) (hq : Rd (fun r => q r false) G (x :: T)) : Rd (fun r => bindM (isM r sg) (q r)) G (x :: T) := fun r i hT hG => by
 obtain ⟨u, hu⟩ := hq r i hT hG
 exact ⟨u, (bindM_step (by unfold isM; rw [mark_out (by rw [hT.1.2.2]; exact hx)])).trans hu⟩
theorem Rd.is_end {β : Type} {q : Rdr → Bool → PM β} {G : List ByteArray} {sg : ByteArray} (hq : Rd (fun r => q r false) G []) : Rd (fun r => bindM (isM r sg) (q r)) (sg :: G) [] := fun r i hT hG => by
 simp only [List.length_nil, Nat.add_zero, List.mem_cons, not_or] at hG
 obtain ⟨u, hu⟩ := hq r i hT hG.2
 exact ⟨u, (bindM_step (by unfold isM; rw [mark_out hG.1])).trans hu⟩
theorem Rd.took_in {β : Type} {q : Rdr → Bool → PM β} {G : List ByteArray} {k : Int} {sg : ByteArray} {T : List KT} (hq : Rd (fun r => q r true) G T) : Rd (fun r => bindM (tookM r sg) (q r)) G ((k, sg) :: T) := fun r i hT hG => by
 rw [List.length_cons, show i + (T.length + 1) = i + 1 + T.length by omega] at hG ⊢
 obtain ⟨u, hu⟩ := hq r (i + 1) hT.2 hG
 exact ⟨u, (bindM_step (by unfold tookM; rw [if_pos (mark_in hT.1.2.2)])).trans hu⟩
theorem Rd.took_end {β : Type} {q : Rdr → Bool → PM β} {G : List ByteArray} {sg : ByteArray} (hq : Rd (fun r => q r false) G []) : Rd (fun r => bindM (tookM r sg) (q r)) (sg :: G) [] := fun r i hT hG => by
 simp only [List.length_nil, Nat.add_zero, List.mem_cons, not_or] at hG
 obtain ⟨u, hu⟩ := hq r i hT hG.2
 exact ⟨u, (bindM_step (by unfold tookM; rw [if_neg (by rw [mark_out hG.1]; decide)])).trans hu⟩
theorem Rd.sign_in {β : Type} {q : Rdr → ByteArray → PM β} {G V : List ByteArray} {k : Int} {sg : ByteArray} {T : List KT} (hV : sg ∈ V) (hq : Rd (fun r => q r sg) G T) : Rd (fun r => bindM (signM r V) (q r)) G ((k, sg) :: T) := fun r i hT hG => by
 rw [List.length_cons, show i + (T.length + 1) = i + 1 + T.length by omega] at hG ⊢
 obtain ⟨u, hu⟩ := hq r (i + 1) hT.2 hG
 exact ⟨u, (bindM_step (by unfold signM; rw [hT.1.2.2, if_pos (hit_in hV)])).trans hu⟩
theorem Rd.sign_out {β : Type} {q : Rdr → ByteArray → PM β} {G V : List ByteArray} {x : KT} {T : List KT} (hx : x.2 ∉ V) (hq : Rd (fun r => q r ⟨#[]⟩) G (x :: T)) : Rd (fun r => bindM (signM r V) (q r)) G (x :: T) := fun r i hT hG => by
 obtain ⟨u, hu⟩ := hq r i hT hG
 exact ⟨u, (bindM_step (by unfold signM; rw [hT.1.2.2, if_neg (by rw [hit_out hx]; decide)])).trans hu⟩
theorem Rd.sign_end {β : Type} {q : Rdr → ByteArray → PM β} {G V : List ByteArray} (hq : Rd (fun r => q r ⟨#[]⟩) G []) : Rd (fun r => bindM (signM r V) (q r)) (V ++ G) [] := fun r i hT hG => by
 simp only [List.length_nil, Nat.add_zero, List.mem_append, not_or] at hG
 obtain ⟨u, hu⟩ := hq r i hT hG.2
 exact ⟨u, (bindM_step (by unfold signM; rw [if_neg (by rw [hit_out hG.1]; decide)])).trans hu⟩
theorem empty0 : (⟨#[]⟩ : ByteArray).toList.isEmpty = true := by rw [ByteArray.toList_eq]; rfl
/-- parts with signs between them -/
inductive Chn (Q : List KT → Prop) (V : List ByteArray) : List KT → Prop
 | one {T : List KT} (h : Q T) : Chn Q V T
 | cons {T : List KT} {k : Int} {sg : ByteArray} {U : List KT} (h : Q T) (hs : sg ∈ V) (hU : Chn Q V U) : Chn Q V (T ++ (k, sg) :: U)
theorem Chn.snoc {Q : List KT → Prop} {V : List ByteArray} {T : List KT} {k : Int} {sg : ByteArray} {U : List KT} (h : Chn Q V T) (hs : sg ∈ V) (hU : Q U) : Chn Q V (T ++ (k, sg) :: U) := by
 induction h with
 | one h => exact .cons h hs (.one hU)
 | cons h hs' hU' ih => rw [List.append_assoc, List.cons_append]; exact .cons h hs' ih
theorem chainM_succ (r : Rdr) (part : PM Tree) (V : List ByteArray) (f : Nat) (t : Tree) : chainM r part V (f + 1) t = bindM (signM r V) fun sg => match sg.toList.isEmpty with
  | true => pureM t
  | false => bindM part fun u => chainM r part V f (.mk 28 sg t.at_ [t, u]) := rfl
theorem rd_chainM {part : Rdr → PM Tree} {Q : List KT → Prop} {V F : List ByteArray} (hQ : ∀ T, Q T → Rd part F T) (hVF : ∀ v ∈ V, v ∉ F) (hV : ∀ v ∈ V, v.toList.isEmpty = false) {T : List KT} (h : Chn Q V T) :
  ∀ (r : Rdr) (f i : Nat) (g : Tree → Tree), T.length < f → LiesT r i T → (r.L.getD (i + T.length) tok0).text ∉ F ++ V → ∃ t, bindM (part r) (fun u => chainM r (part r) V f (g u)) i = .ok (t, i + T.length) := by
 induction h with
 | @one T h =>
  intro r f i g hf hT hG
  simp only [List.mem_append, not_or] at hG
  obtain ⟨t, ht⟩ := hQ _ h r i hT hG.1
  rw [bindM_step ht]
  obtain ⟨f, rfl⟩ : ∃ f', f = f' + 1 := ⟨f - 1, by omega⟩
  exact ⟨g t, by unfold chainM; rw [bindM_step (by unfold signM; rw [if_neg (by rw [hit_out hG.2]; decide)])]; rw [empty0]; rfl⟩
 | @cons T k sg U h hs hU ih =>
  intro r f i g hf hT hG
  obtain ⟨h1, h2⟩ := hT.app
  obtain ⟨t, ht⟩ := hQ _ h r i h1 (by rw [h2.1.2.2]; exact hVF _ hs)
  rw [bindM_step ht]
  obtain ⟨f, rfl⟩ : ∃ f', f = f' + 1 := ⟨f - 1, by simp at hf; omega⟩
  have e : i + (T ++ (k, sg) :: U).length = i + T.length + 1 + U.length := by simp; omega
  rw [e] at hG
  obtain ⟨u, hu⟩ := ih r f (i + T.length + 1) (fun u => .mk 28 sg (g t).at_ [g t, u]) (by simp at hf; omega) h2.2 hG
  refine ⟨u, ?_⟩
  rw [e, ← hu]
  rw [chainM_succ, bindM_step (x := sg) (j := i + T.length + 1) (by unfold signM; rw [h2.1.2.2, if_pos (hit_in hs)]), hV _ hs]
/-- a chain is read -/
theorem rd_chain {part : Rdr → PM Tree} {Q : List KT → Prop} {V F : List ByteArray} (hQ : ∀ T, Q T → Rd part F T) (hVF : ∀ v ∈ V, v ∉ F) (hV : ∀ v ∈ V, v.toList.isEmpty = false) {T : List KT} (h : Chn Q V T) (hT0 : T ≠ []) : Rd (fun r => chainP r (part r) V) (F ++ V) T := fun r i hT hG => by
 have hle : T.length < r.L.length + 1 := by
  cases T with
  | nil => exact absurd rfl hT0
  | cons x T =>
   have h1 := hT.1.1
   have := hT.le (Nat.le_of_lt h1)
   omega
 obtain ⟨t, ht⟩ := rd_chainM hQ hVF hV h r (r.L.length + 1) i id hle hT hG
 exact ⟨t, ht⟩
theorem rd_listP {part : Rdr → PM Tree} {Q : List KT → Prop} {F : List ByteArray} {sg : ByteArray} (hQ : ∀ T, Q T → Rd part F T) (hF : sg ∉ F) {T : List KT} (h : Chn Q [sg] T) :
  ∀ (r : Rdr) (f i : Nat), T.length < f → LiesT r i T → (r.L.getD (i + T.length) tok0).text ∉ F ++ [sg] → ∃ t, listP r sg (part r) f i = .ok (t, i + T.length) := by
 induction h with
 | @one T h =>
  intro r f i hf hT hG
  simp only [List.mem_append, not_or] at hG
  obtain ⟨t, ht⟩ := hQ _ h r i hT hG.1
  obtain ⟨f, rfl⟩ : ∃ f', f = f' + 1 := ⟨f - 1, by omega⟩
  refine ⟨[t], ?_⟩
  unfold listP
  rw [ht]
  simp only
  rw [if_neg (by rw [mark_out (fun e => hG.2 (by rw [e]; simp))]; decide)]
 | @cons T k sg' U h hs hU ih =>
  intro r f i hf hT hG
  obtain rfl : sg' = sg := by simpa using hs
  obtain ⟨h1, h2⟩ := hT.app
  obtain ⟨t, ht⟩ := hQ _ h r i h1 (by rw [h2.1.2.2]; exact hF)
  obtain ⟨f, rfl⟩ : ∃ f', f = f' + 1 := ⟨f - 1, by simp at hf; omega⟩
  have e : i + (T ++ (k, sg') :: U).length = i + T.length + 1 + U.length := by simp; omega
  rw [e] at hG ⊢
  obtain ⟨u, hu⟩ := ih r f (i + T.length + 1) (by simp at hf; omega) h2.2 hG
  refine ⟨t :: u, ?_⟩
  unfold listP
  rw [ht]
  simp only
  rw [if_pos (mark_in h2.1.2.2), hu]
/-- up to a mark -/
theorem rd_upTo0 {part : Rdr → PM Tree} {k : Int} {en : ByteArray} : Rd (fun r => upToP r en (part r)) [] [(k, en)] := fun r i hT hG => by
 refine ⟨[], ?_⟩
 show upToP r en (part r) i = _
 unfold upToP
 rw [if_pos (mark_in hT.1.2.2)]
 rfl
theorem rd_upTo {part : Rdr → PM Tree} {Q : List KT → Prop} {F : List ByteArray} (hQ : ∀ T, Q T → Rd part F T) (hF : ⟨#[44]⟩ ∉ F) {x : KT} {T : List KT} (h : Chn Q [⟨#[44]⟩] (x :: T)) {k : Int} {en : ByteArray} (hx : x.2 ≠ en) (he : en ∉ F ++ [⟨#[44]⟩]) :
  Rd (fun r => upToP r en (part r)) [] (x :: T ++ [(k, en)]) := fun r i hT hG => by
 obtain ⟨h1, h2⟩ := hT.app
 have hl := h1.le (Nat.le_of_lt h1.1.1)
 have h0 := h1.1.1
 obtain ⟨ts, ht⟩ := rd_listP hQ hF h r (r.L.length + 1) i (by omega) h1 (by rw [h2.1.2.2]; exact he)
 refine ⟨ts, ?_⟩
 show upToP r en (part r) i = _
 unfold upToP
 rw [if_neg (by rw [mark_out (by rw [h1.1.2.2]; exact hx)]; decide), ht]
 simp only
 rw [if_pos (mark_in h2.1.2.2)]
 rw [List.length_append, ← Nat.add_assoc]
 rfl
/-- what stands in parentheses: nothing, or parts with commas between them -/
inductive ArgL (Q : List KT → Prop) : List KT → Prop
 | nil : ArgL Q []
 | some {x : KT} {T : List KT} (h : Chn Q [⟨#[44]⟩] (x :: T)) (hx : x.2 ≠ ⟨#[41]⟩) : ArgL Q (x :: T)
theorem rd_arguments {E : Rdr → PM Tree} {Q : List KT → Prop} {F : List ByteArray} (hQ : ∀ T, Q T → Rd E F T) (hF : ⟨#[44]⟩ ∉ F) (hF2 : ⟨#[41]⟩ ∉ F) {T : List KT} (h : ArgL Q T) {k l : Int} : Rd (fun r => argumentsM r (E r)) [] ((k, ⟨#[40]⟩) :: (T ++ [(l, ⟨#[41]⟩)])) := by
 refine .need ?_
 cases h with
 | nil => exact rd_upTo0
 | some h hx =>
  refine rd_upTo hQ hF h hx ?_
  simp only [List.mem_append, not_or]
  exact ⟨hF2, notin (by decide)⟩
/-- dots and names -/
def dotsT : List (Int × ByteArray) → List KT
 | [] => []
 | x :: l => (x.1, ⟨#[46]⟩) :: (1, x.2) :: dotsT l
theorem rd_dots : ∀ (l : List (Int × ByteArray)) (f : Nat) (t : Tree), l.length < f → Rd (fun r => dotsM r f t) [⟨#[46]⟩] (dotsT l)
 | [], f + 1, t, h => Rd.took_end rd_pure
 | x :: l, f + 1, t, h => Rd.took_in (Rd.name fun nm => rd_dots l f _ (by simpa using h))
theorem dotsT_length : ∀ l, (dotsT l).length = 2 * l.length
 | [] => rfl
 | x :: l => by simp only [dotsT, List.length_cons, dotsT_length l]; omega
end Gr
end Go.Proofs.YtheigpiffdabnaaGreat
namespace Go.Proofs.YtheigpiffdabnaaGreat
open Go Go.RowKit
namespace Gr
/-- what no expr begins with, in a block -/
def HdF : List ByteArray := [⟨#[41]⟩, ⟨#[125]⟩, ⟨#[108, 101, 116]⟩, ⟨#[119, 104, 105, 108, 101]⟩, ⟨#[112, 114, 105, 110, 116]⟩, ⟨#[61]⟩]
/-- these tokens begin as an expr does -/
def Hd (T : List KT) : Prop := ∃ x U, T = x :: U ∧ x.2 ∉ HdF ∧ ∀ y W, U = y :: W → y.2 ≠ ⟨#[61]⟩
theorem Hd.ne {T : List KT} (h : Hd T) : T ≠ [] := by obtain ⟨x, U, rfl, -⟩ := h; simp
theorem Hd.app {T U : List KT} (h : Hd T) (hU : ∀ y W, U = y :: W → y.2 ≠ ⟨#[61]⟩) : Hd (T ++ U) := by
 obtain ⟨x, V, rfl, h1, h2⟩ := h
 refine ⟨x, V ++ U, rfl, h1, fun y W e => ?_⟩
 cases V with
 | nil => exact hU y W e
 | cons z V => simp only [List.cons_append, List.cons.injEq] at e; exact h2 y V (by rw [e.1])
theorem Hd.one {x : KT} {T : List KT} (hx : x.2 ∉ HdF) (hT : ∀ y W, T = y :: W → y.2 ≠ ⟨#[61]⟩) : Hd (x :: T) := ⟨x, T, rfl, hx, hT⟩
theorem Hd.head {T : List KT} (h : Hd T) : ∀ y W, T = y :: W → y.2 ≠ ⟨#[61]⟩ := fun y W e => by
 obtain ⟨x, U, rfl, h1, -⟩ := h
 simp only [List.cons.injEq] at e
 rw [← e.1]
 exact fun h2 => h1 (h2 ▸ isin (by decide))
theorem nil_head : ∀ (y : KT) W, ([] : List KT) = y :: W → y.2 ≠ ⟨#[61]⟩ := fun y W e => by cases e
theorem cons_head {x : KT} {T : List KT} (h : x.2 ≠ ⟨#[61]⟩) : ∀ (y : KT) W, x :: T = y :: W → y.2 ≠ ⟨#[61]⟩ := fun y W e => by simp only [List.cons.injEq] at e; rw [← e.1]; exact h
theorem Chn.hd {Q : List KT → Prop} {V : List ByteArray} (hQ : ∀ T, Q T → Hd T) (hV : ⟨#[61]⟩ ∉ V) {T : List KT} (h : Chn Q V T) : Hd T := by
 cases h with
 | one h => exact hQ _ h
 | cons h hs hU => exact (hQ _ h).app (cons_head fun e => hV (e ▸ hs))
def EE (d : Nat) : Rdr → PM Tree := fun r => (subL r d).E
def BB (d : Nat) : Rdr → PM Tree := fun r => (subL r d).B
def UU (d : Nat) : Rdr → PM Tree := fun r => (subL r d).U
def Fp : List ByteArray := [⟨#[40]⟩, ⟨#[33]⟩]
def Fu : List ByteArray := Fp ++ [⟨#[46]⟩]
def Fs : List ByteArray := Fu ++ Vmul ++ Vadd
def Fe : List ByteArray := Fs ++ Vrel ++ Vand ++ Vor
/-- an operand of level d + 1 -/
structure UnL (d : Nat) (T : List KT) : Prop where
 rd : Rd (UU (d + 1)) Fu T
 hd : Hd T
def SumL (d : Nat) : List KT → Prop := Chn (Chn (UnL d) Vmul) Vadd
theorem SumL.hd {d : Nat} {T : List KT} (h : SumL d T) : Hd T := Chn.hd (fun T h => Chn.hd (fun T h => h.hd) (notin rfl) h) (notin rfl) h
inductive RelL (d : Nat) : List KT → Prop
 | one {T : List KT} (h : SumL d T) : RelL d T
 | two {T : List KT} {k : Int} {sg : ByteArray} {U : List KT} (h : SumL d T) (hs : sg ∈ Vrel) (hU : SumL d U) : RelL d (T ++ (k, sg) :: U)
theorem RelL.hd {d : Nat} {T : List KT} (h : RelL d T) : Hd T := by
 cases h with
 | one h => exact h.hd
 | @two T k sg U h hs hU => exact h.hd.app (cons_head fun e => by have e2 : sg = ⟨#[61]⟩ := e; rw [e2] at hs; exact notin rfl hs)
def ExL (d : Nat) : List KT → Prop := Chn (Chn (RelL d) Vand) Vor
theorem ExL.hd {d : Nat} {T : List KT} (h : ExL d T) : Hd T := Chn.hd (fun T h => Chn.hd (fun T h => h.hd) (notin rfl) h) (notin rfl) h
theorem fulls {V : List ByteArray} (h : (V.all fun v => !v.data.toList.isEmpty) = true) : ∀ v ∈ V, v.toList.isEmpty = false := fun v hv => by
 have := List.all_eq_true.1 h v hv
 rw [ByteArray.toList_eq]
 simpa using this
theorem rd_sum {d : Nat} {T : List KT} (h : SumL d T) : Rd (fun r => sumM r (subL r d).E (subL r d).B (subL r d).U) Fs T :=
 rd_chain (part := fun r => prodM r (subL r d).E (subL r d).B (subL r d).U) (F := Fu ++ Vmul) (fun T h => rd_chain (part := UU (d + 1)) (F := Fu) (fun T h => h.rd) (notins (by decide)) (fulls (by decide)) h (Chn.hd (fun T h => h.hd) (notin rfl) h).ne) (notins (by decide)) (fulls (by decide)) h h.hd.ne
theorem rd_rel {d : Nat} {T : List KT} (h : RelL d T) : Rd (fun r => relM r (subL r d).E (subL r d).B (subL r d).U) (Fs ++ Vrel) T := by
 cases h with
 | one h =>
  refine (Rd.last (G := Vrel ++ []) (rd_sum h) fun t => Rd.sign_end ?_).mono fun v hv => by simpa using hv
  simp only [empty0]
  exact rd_pure
 | @two T k sg U h hs hU =>
  refine (Rd.bind (G := Fs ++ []) (rd_sum h) (notins (V := Vrel) (by decide) _ hs) fun t => Rd.sign_in hs ?_).mono fun v hv => by simp at hv ⊢; exact .inl hv
  simp only [fulls (V := Vrel) (by decide) _ hs]
  exact Rd.last (rd_sum hU) fun u => rd_pure
theorem rd_ex {d : Nat} {T : List KT} (h : ExL d T) : Rd (EE (d + 1)) Fe T :=
 rd_chain (part := fun r => andM r (subL r d).E (subL r d).B (subL r d).U) (F := Fs ++ Vrel ++ Vand) (fun T h => rd_chain (part := fun r => relM r (subL r d).E (subL r d).B (subL r d).U) (F := Fs ++ Vrel) (fun T h => rd_rel h) (notins (by decide)) (fulls (by decide)) h (Chn.hd (fun T h => h.hd) (notin rfl) h).ne) (notins (by decide)) (fulls (by decide)) h h.hd.ne
theorem SumL.ex {d : Nat} {T : List KT} (h : SumL d T) : ExL d T := .one (.one (.one h))
theorem UnL.sum {d : Nat} {T : List KT} (h : UnL d T) : SumL d T := .one (.one h)
/-- an expr at level d: what E reads -/
structure ExT (d : Nat) (T : List KT) : Prop where
 rd : Rd (EE d) Fe T
 hd : Hd T
theorem ExL.t {d : Nat} {T : List KT} (h : ExL d T) : ExT (d + 1) T := ⟨rd_ex h, h.hd⟩
/-- what has no sign before it -/
theorem un_post {d : Nat} {F : List ByteArray} {x : KT} {T : List KT} (hx : x.2 ∉ Vun) (h : Rd (fun r => postM r (subL r d).E (subL r d).B) F (x :: T)) : Rd (UU (d + 1)) F (x :: T) := by
 show Rd (fun r => unaryM r (subL r d).E (subL r d).B (subL r d).U) F (x :: T)
 refine Rd.here fun a => Rd.sign_out hx ?_
 simp only [empty0]
 exact h
theorem un_sign {d : Nat} {k : Int} {sg : ByteArray} {T : List KT} (hs : sg ∈ Vun) (h : UnL d T) : UnL (d + 1) ((k, sg) :: T) := by
 refine ⟨?_, .one (notins (V := Vun) (by decide) _ hs) h.hd.head⟩
 show Rd (fun r => unaryM r (subL r (d + 1)).E (subL r (d + 1)).B (subL r (d + 1)).U) Fu _
 refine Rd.here fun a => Rd.sign_in hs ?_
 simp only [fulls (V := Vun) (by decide) _ hs]
 exact (Rd.last (G := []) h.rd fun t => rd_nd).mono fun v hv => by simpa using hv
/-- a primary, and dots -/
theorem post_of {d : Nat} {T : List KT} (h : Rd (fun r => primaryM r (subL r d).E (subL r d).B) Fp T) : Rd (fun r => postM r (subL r d).E (subL r d).B) Fu T := fun r i hT hG => by
 obtain ⟨t, ht⟩ := h r i hT fun hf => hG (List.mem_append_left _ hf)
 obtain ⟨u, hu⟩ := rd_dots [] (r.L.length + 1) t (by simp) r (i + T.length) trivial fun hf => hG (List.mem_append_right _ hf)
 exact ⟨u, (bindM_step ht).trans hu⟩
theorem post_dots {d : Nat} {T : List KT} (h : Rd (fun r => primaryM r (subL r d).E (subL r d).B) Fp T) (x : Int × ByteArray) (l : List (Int × ByteArray)) : Rd (fun r => postM r (subL r d).E (subL r d).B) Fu (T ++ dotsT (x :: l)) := fun r i hT hG => by
 obtain ⟨h1, h2⟩ := hT.app
 obtain ⟨t, ht⟩ := h r i h1 (by rw [h2.1.2.2]; exact notin rfl)
 have hl := h2.le (Nat.le_of_lt h2.1.1)
 rw [dotsT_length] at hl
 rw [List.length_append, ← Nat.add_assoc] at hG ⊢
 obtain ⟨u, hu⟩ := rd_dots (x :: l) (r.L.length + 1) t (by omega) r (i + T.length) h2 fun hf => hG (List.mem_append_right _ (by simpa using hf))
 exact ⟨u, (bindM_step ht).trans hu⟩
section
variable {d : Nat}
theorem pr_int {s : ByteArray} : Rd (fun r => primaryM r (subL r d).E (subL r d).B) Fp [(3, s)] := Rd.tok fun x h1 h2 => by
 simp only [if_pos h1]
 exact Rd.take fun t => rd_nd
theorem pr_name {s : ByteArray} : Rd (fun r => primaryM r (subL r d).E (subL r d).B) Fp [(1, s)] := Rd.tok fun x h1 h2 => by
 have h3 : ¬ x.kind = 3 := by rw [h1]; exact (by decide : ¬ (1 : Int) = 3)
 simp only [if_neg h3, if_pos h1]
 exact Rd.here fun a => Rd.name fun nm => Rd.is_end (Rd.took_end rd_nd)
theorem pr_call {s : ByteArray} {k l : Int} {T : List KT} (h : ArgL (ExT d) T) : Rd (fun r => primaryM r (subL r d).E (subL r d).B) Fp ((1, s) :: (k, ⟨#[40]⟩) :: (T ++ [(l, ⟨#[41]⟩)])) := Rd.tok fun x h1 h2 => by
 have h3 : ¬ x.kind = 3 := by rw [h1]; exact (by decide : ¬ (1 : Int) = 3)
 simp only [if_neg h3, if_pos h1]
 refine Rd.here fun a => Rd.name fun nm => Rd.is_in ?_
 exact (Rd.last (G := []) (rd_arguments (E := EE d) (Q := ExT d) (fun T h => h.rd) (notin rfl) (notin rfl) h) fun l => rd_nd).mono fun v hv => by simp at hv
theorem pr_expand {s : ByteArray} {k l m : Int} {T : List KT} (h : ArgL (ExT d) T) : Rd (fun r => primaryM r (subL r d).E (subL r d).B) Fp ((1, s) :: (m, ⟨#[33]⟩) :: (k, ⟨#[40]⟩) :: (T ++ [(l, ⟨#[41]⟩)])) := Rd.tok fun x h1 h2 => by
 have h3 : ¬ x.kind = 3 := by rw [h1]; exact (by decide : ¬ (1 : Int) = 3)
 simp only [if_neg h3, if_pos h1]
 refine Rd.here fun a => Rd.name fun nm => Rd.is_out (noteq rfl) (Rd.took_in ?_)
 exact (Rd.last (G := []) (rd_arguments (E := EE d) (Q := ExT d) (fun T h => h.rd) (notin rfl) (notin rfl) h) fun l => rd_nd).mono fun v hv => by simp at hv
/-- the words and marks with which a primary begins -/
theorem word_step {x : Lx.Tok} {k : Int} {w : ByteArray} (h1 : x.kind = k) (h2 : x.text = w) (hk : k ≠ 3) (hk1 : k ≠ 1) : ¬ x.kind = 3 ∧ ¬ x.kind = 1 ∧ x.text = w := ⟨by rw [h1]; exact hk, by rw [h1]; exact hk1, h2⟩
theorem pr_bool {k : Int} {s : ByteArray} (hk : k ≠ 3) (hk1 : k ≠ 1) (hs : s = ⟨#[116, 114, 117, 101]⟩ ∨ s = ⟨#[102, 97, 108, 115, 101]⟩) : Rd (fun r => primaryM r (subL r d).E (subL r d).B) Fp [(k, s)] := Rd.tok fun x h1 h2 => by
 obtain ⟨h3, h4, h5⟩ := word_step h1 h2 hk hk1
 have h6 : isB x.text ⟨#[116, 114, 117, 101]⟩ = true ∨ isB x.text ⟨#[102, 97, 108, 115, 101]⟩ = true := hs.imp (fun e => isB_in (h5.trans e)) (fun e => isB_in (h5.trans e))
 simp only [if_neg h3, if_neg h4, if_pos h6]
 exact Rd.take fun t => rd_nd
theorem pr_new {k l m : Int} {s : ByteArray} {T : List KT} (hk : k ≠ 3) (hk1 : k ≠ 1) (h : ArgL (ExT d) T) : Rd (fun r => primaryM r (subL r d).E (subL r d).B) Fp ((k, ⟨#[110, 101, 119]⟩) :: (1, s) :: (m, ⟨#[40]⟩) :: (T ++ [(l, ⟨#[41]⟩)])) := Rd.tok fun x h1 h2 => by
 obtain ⟨h3, h4, h5⟩ := word_step h1 h2 hk hk1
 have h6 : ¬ (isB x.text ⟨#[116, 114, 117, 101]⟩ = true ∨ isB x.text ⟨#[102, 97, 108, 115, 101]⟩ = true) := by rw [h5, isB_out (noteq rfl), isB_out (noteq rfl)]; decide
 have h7 : isB x.text ⟨#[110, 101, 119]⟩ = true := isB_in h5
 simp only [if_neg h3, if_neg h4, if_neg h6, if_pos h7]
 refine Rd.here fun a => Rd.need (Rd.name fun nm => ?_)
 exact (Rd.last (G := []) (rd_arguments (E := EE d) (Q := ExT d) (fun T h => h.rd) (notin rfl) (notin rfl) h) fun l => rd_nd).mono fun v hv => by simp at hv
theorem pr_paren {k l : Int} {T : List KT} (hk : k ≠ 3) (hk1 : k ≠ 1) (h : ExT d T) : Rd (fun r => primaryM r (subL r d).E (subL r d).B) Fp ((k, ⟨#[40]⟩) :: (T ++ [(l, ⟨#[41]⟩)])) := Rd.tok fun x h1 h2 => by
 obtain ⟨h3, h4, h5⟩ := word_step h1 h2 hk hk1
 have h6 : ¬ (isB x.text ⟨#[116, 114, 117, 101]⟩ = true ∨ isB x.text ⟨#[102, 97, 108, 115, 101]⟩ = true) := by rw [h5, isB_out (noteq rfl), isB_out (noteq rfl)]; decide
 have h7 : ¬ isB x.text ⟨#[110, 101, 119]⟩ = true := by rw [h5, isB_out (noteq rfl)]; decide
 have h8 : isB x.text ⟨#[40]⟩ = true := isB_in h5
 simp only [if_neg h3, if_neg h4, if_neg h6, if_neg h7, if_pos h8]
 exact Rd.need (Rd.bind h.rd (notin rfl) fun t => Rd.need rd_pure)
/-- a block of the level d -/
def BlkT (d : Nat) (T : List KT) : Prop := ∃ k U, T = (k, ⟨#[123]⟩) :: U ∧ k ≠ 3 ∧ k ≠ 1 ∧ (∀ y W, U = y :: W → y.2 ≠ ⟨#[61]⟩) ∧ Rd (BB d) [] T
theorem pr_block {T : List KT} (h : BlkT (d + 1) T) : Rd (fun r => primaryM r (subL r d).E (subL r d).B) Fp T := by
 obtain ⟨k, U, rfl, hk, hk1, -, h⟩ := h
 refine Rd.tok fun x h1 h2 => ?_
 obtain ⟨h3, h4, h5⟩ := word_step h1 h2 hk hk1
 have h6 : ¬ (isB x.text ⟨#[116, 114, 117, 101]⟩ = true ∨ isB x.text ⟨#[102, 97, 108, 115, 101]⟩ = true) := by rw [h5, isB_out (noteq rfl), isB_out (noteq rfl)]; decide
 have h7 : ¬ isB x.text ⟨#[110, 101, 119]⟩ = true := by rw [h5, isB_out (noteq rfl)]; decide
 have h8 : ¬ isB x.text ⟨#[40]⟩ = true := by rw [h5, isB_out (noteq rfl)]; decide
 have h9 : ¬ isB x.text ⟨#[105, 102]⟩ = true := by rw [h5, isB_out (noteq rfl)]; decide
 have h10 : isB x.text ⟨#[123]⟩ = true := isB_in h5
 simp only [if_neg h3, if_neg h4, if_neg h6, if_neg h7, if_neg h8, if_neg h9, if_pos h10]
 exact h.mono fun v hv => by simp at hv
theorem pr_if {k l : Int} {C T U : List KT} (hk : k ≠ 3) (hk1 : k ≠ 1) (hC : ExT d C) (hT : BlkT d T) (hU : BlkT d U) : Rd (fun r => primaryM r (subL r d).E (subL r d).B) Fp ((k, ⟨#[105, 102]⟩) :: (C ++ (T ++ ((l, ⟨#[101, 108, 115, 101]⟩) :: U)))) := Rd.tok fun x h1 h2 => by
 obtain ⟨h3, h4, h5⟩ := word_step h1 h2 hk hk1
 have h6 : ¬ (isB x.text ⟨#[116, 114, 117, 101]⟩ = true ∨ isB x.text ⟨#[102, 97, 108, 115, 101]⟩ = true) := by rw [h5, isB_out (noteq rfl), isB_out (noteq rfl)]; decide
 have h7 : ¬ isB x.text ⟨#[110, 101, 119]⟩ = true := by rw [h5, isB_out (noteq rfl)]; decide
 have h8 : ¬ isB x.text ⟨#[40]⟩ = true := by rw [h5, isB_out (noteq rfl)]; decide
 have h9 : isB x.text ⟨#[105, 102]⟩ = true := isB_in h5
 simp only [if_neg h3, if_neg h4, if_neg h6, if_neg h7, if_neg h8, if_pos h9]
 obtain ⟨a, T, rfl, -, -, -, hT⟩ := hT
 obtain ⟨b, U, rfl, -, -, -, hU⟩ := hU
 refine Rd.here fun p => Rd.need ?_
 refine Rd.bind hC.rd (notin rfl) fun c => ?_
 refine Rd.bind hT (by simp) fun y => Rd.need ?_
 exact (Rd.last (G := []) hU fun n => rd_nd).mono fun v hv => by simp at hv
end
end Gr
end Go.Proofs.YtheigpiffdabnaaGreat
namespace Go.Proofs.YtheigpiffdabnaaGreat
open Go Go.RowKit
namespace Gr
/-- a statement in a block whose parts are of the level d -/
structure StL (d : Nat) (T : List KT) : Prop where
 rd : Rd (fun r => stmtM r (subL r d).E (subL r d).B) [] T
 ne : ∃ x U, T = x :: U ∧ x.2 ≠ ⟨#[125]⟩ ∧ x.2 ≠ ⟨#[61]⟩
theorem st_let {d : Nat} {k l m : Int} {s : ByteArray} {T : List KT} (h : ExT d T) : StL d ((k, ⟨#[108, 101, 116]⟩) :: (1, s) :: (l, ⟨#[61]⟩) :: (T ++ [(m, ⟨#[59]⟩)])) := by
 refine ⟨Rd.is_in ?_, _, _, rfl, noteq rfl, noteq rfl⟩
 exact Rd.here fun a => Rd.need (Rd.name fun nm => Rd.need (Rd.bind h.rd (notin rfl) fun v => Rd.need rd_nd))
theorem st_while {d : Nat} {k : Int} {T U : List KT} (h : ExT d T) (hU : BlkT d U) : StL d ((k, ⟨#[119, 104, 105, 108, 101]⟩) :: (T ++ U)) := by
 refine ⟨Rd.is_out (noteq rfl) (Rd.is_in ?_), _, _, rfl, noteq rfl, noteq rfl⟩
 obtain ⟨b, U, rfl, -, -, -, hU⟩ := hU
 refine Rd.here fun a => Rd.need (Rd.bind h.rd (notin rfl) fun v => ?_)
 exact Rd.last (G := []) hU fun n => rd_nd
theorem st_print {d : Nat} {k m : Int} {T : List KT} (h : ExT d T) : StL d ((k, ⟨#[112, 114, 105, 110, 116]⟩) :: (T ++ [(m, ⟨#[59]⟩)])) := by
 refine ⟨Rd.is_out (noteq rfl) (Rd.is_out (noteq rfl) (Rd.is_in ?_)), _, _, rfl, noteq rfl, noteq rfl⟩
 exact Rd.here fun a => Rd.need (Rd.bind h.rd (notin rfl) fun v => Rd.need rd_nd)
theorem Rd.peek {β : Type} {q : Rdr → ByteArray → PM β} {G : List ByteArray} {x y : KT} {T : List KT} (hq : Rd (fun r => q r y.2) G (x :: y :: T)) : Rd (fun r => bindM (peekM r) (q r)) G (x :: y :: T) := fun r i hT hG => by
 obtain ⟨u, hu⟩ := hq r i hT hG
 exact ⟨u, (bindM_step (x := y.2) (j := i) (by unfold peekM; rw [hT.2.1.2.2])).trans hu⟩
theorem st_assign {d : Nat} {l m : Int} {s : ByteArray} {T : List KT} (hs : s ∉ HdF) (h : ExT d T) : StL d ((1, s) :: (l, ⟨#[61]⟩) :: (T ++ [(m, ⟨#[59]⟩)])) := by
 have h1 : s ≠ ⟨#[108, 101, 116]⟩ := fun e => hs (e ▸ isin (by decide))
 have h2 : s ≠ ⟨#[119, 104, 105, 108, 101]⟩ := fun e => hs (e ▸ isin (by decide))
 have h3 : s ≠ ⟨#[112, 114, 105, 110, 116]⟩ := fun e => hs (e ▸ isin (by decide))
 refine ⟨Rd.is_out h1 (Rd.is_out h2 (Rd.is_out h3 (Rd.tok fun x hx hx2 => ?_))), _, _, rfl, fun e => hs (show s ∈ HdF from (show s = _ from e) ▸ isin (by decide)), fun e => hs (show s ∈ HdF from (show s = _ from e) ▸ isin (by decide))⟩
 have h4 : x.kind = 1 := hx
 have h5 : decide (x.kind = 1) = true := by rw [h4]; rfl
 simp only [h5]
 refine Rd.peek ?_
 have h6 : isB (⟨#[61]⟩ : ByteArray) ⟨#[61]⟩ = true := isB_in rfl
 simp only [h6]
 exact Rd.here fun a => Rd.name fun nm => Rd.need (Rd.bind h.rd (notin rfl) fun v => Rd.need rd_nd)
/-- the value of a block, where its end follows -/
theorem st_value {d : Nat} {k : Int} {T : List KT} (h : ExT d T) (r : Rdr) (i : Nat) (hT : LiesT r i (T ++ [(k, ⟨#[125]⟩)])) : ∃ t, stmtM r (subL r d).E (subL r d).B i = .ok (t, i + T.length) := by
 obtain ⟨h1, h2⟩ := hT.app
 obtain ⟨x, U, rfl, hx, hU⟩ := h.hd
 obtain ⟨t, ht⟩ := h.rd r i h1 (by rw [h2.1.2.2]; exact notin rfl)
 have hv : valueM r (subL r d).E i = .ok (t, i + (x :: U).length) := by
  unfold valueM
  refine (bindM_step ht).trans ?_
  rw [bindM_step (x := true) (j := i + (x :: U).length) (by unfold isM; rw [mark_in h2.1.2.2])]
  rfl
 have n1 : x.2 ≠ ⟨#[108, 101, 116]⟩ := fun e => hx (e ▸ isin (by decide))
 have n2 : x.2 ≠ ⟨#[119, 104, 105, 108, 101]⟩ := fun e => hx (e ▸ isin (by decide))
 have n3 : x.2 ≠ ⟨#[112, 114, 105, 110, 116]⟩ := fun e => hx (e ▸ isin (by decide))
 refine ⟨t, ?_⟩
 unfold stmtM
 rw [bindM_step (x := false) (j := i) (by unfold isM; rw [mark_out (by rw [h1.1.2.2]; exact n1)])]
 simp only
 rw [bindM_step (x := false) (j := i) (by unfold isM; rw [mark_out (by rw [h1.1.2.2]; exact n2)])]
 simp only
 rw [bindM_step (x := false) (j := i) (by unfold isM; rw [mark_out (by rw [h1.1.2.2]; exact n3)])]
 simp only
 rw [bindM_step (x := r.L.getD i tok0) (j := i) rfl]
 cases hk : decide ((r.L.getD i tok0).kind = 1) with
 | false => exact hv
 | true =>
  simp only
  rw [bindM_step (x := (r.L.getD (i + 1) tok0).text) (j := i) rfl]
  have h6 : isB (r.L.getD (i + 1) tok0).text ⟨#[61]⟩ = false := by
   refine isB_out ?_
   cases U with
   | nil => have h9 : (r.L.getD (i + 1) tok0).text = ⟨#[125]⟩ := h2.1.2.2
            rw [h9]; exact noteq rfl
   | cons y W => rw [h1.2.1.2.2]; exact hU y W rfl
  rw [h6]
  exact hv
/-- statements, a value, and the mark behind them -/
inductive BodyL (d : Nat) : List KT → Prop
 | fin (k : Int) : BodyL d [(k, ⟨#[125]⟩)]
 | val {T : List KT} (h : ExT d T) (k : Int) : BodyL d (T ++ [(k, ⟨#[125]⟩)])
 | st {T U : List KT} (h : StL d T) (hU : BodyL d U) : BodyL d (T ++ U)
theorem BodyL.ne {d : Nat} {T : List KT} (h : BodyL d T) : 0 < T.length := by
 cases h with
 | fin k => simp
 | val h k => simp
 | st h hU =>
  obtain ⟨x, U, rfl, -⟩ := h.ne
  simp
theorem BodyL.head {d : Nat} {T : List KT} (h : BodyL d T) : ∀ y W, T = y :: W → y.2 ≠ ⟨#[61]⟩ := by
 cases h with
 | fin k => exact cons_head (noteq rfl)
 | val h k =>
  obtain ⟨x, U, rfl, hx, -⟩ := h.hd
  exact cons_head fun e => hx (e ▸ isin (by decide))
 | st h hU =>
  obtain ⟨x, U, rfl, -, hx⟩ := h.ne
  exact cons_head hx
theorem stmtsM_succ (r : Rdr) (E Bk : PM Tree) (f : Nat) (l : List Tree) : stmtsM r E Bk (f + 1) l = bindM (isM r ⟨#[125]⟩) fun b => match b with
  | true => pureM l
  | false => bindM (stmtM r E Bk) fun t => stmtsM r E Bk f (l ++ [t]) := rfl
theorem rd_stmts {d : Nat} {T : List KT} (h : BodyL d T) : ∀ (r : Rdr) (f i : Nat) (l : List Tree), T.length < f → LiesT r i T → ∃ l', stmtsM r (subL r d).E (subL r d).B f l i = .ok (l', i + T.length - 1) := by
 induction h with
 | fin k =>
  intro r f i l hf hT
  obtain ⟨f, rfl⟩ : ∃ f', f = f' + 1 := ⟨f - 1, by omega⟩
  refine ⟨l, ?_⟩
  rw [stmtsM_succ, bindM_step (x := true) (j := i) (by unfold isM; rw [mark_in hT.1.2.2])]
  rfl
 | @val T h k =>
  intro r f i l hf hT
  obtain ⟨f, rfl⟩ : ∃ f', f = f' + 1 := ⟨f - 1, by omega⟩
  obtain ⟨t, ht⟩ := st_value h r i hT
  obtain ⟨h1, h2⟩ := hT.app
  have hn : (r.L.getD i tok0).text ≠ ⟨#[125]⟩ := by
   obtain ⟨x, U, rfl, hx, hU⟩ := h.hd
   rw [h1.1.2.2]
   exact fun e => hx (e ▸ isin (by decide))
  have hl : 0 < T.length := by
   obtain ⟨x, U, rfl, hx, hU⟩ := h.hd
   simp
  obtain ⟨f, rfl⟩ : ∃ f', f = f' + 1 := ⟨f - 1, by simp at hf; omega⟩
  refine ⟨l ++ [t], ?_⟩
  rw [stmtsM_succ, bindM_step (x := false) (j := i) (by unfold isM; rw [mark_out hn])]
  refine (bindM_step ht).trans ?_
  rw [stmtsM_succ, bindM_step (x := true) (j := i + T.length) (by unfold isM; rw [mark_in h2.1.2.2])]
  rw [List.length_append]
  rfl
 | @st T U h hU ih =>
  intro r f i l hf hT
  obtain ⟨f, rfl⟩ : ∃ f', f = f' + 1 := ⟨f - 1, by omega⟩
  obtain ⟨h1, h2⟩ := hT.app
  obtain ⟨t, ht⟩ := h.rd r i h1 (by simp)
  obtain ⟨x, V, rfl, hx, -⟩ := h.ne
  obtain ⟨l', hl⟩ := ih r f (i + (x :: V).length) (l ++ [t]) (by simp at hf; omega) h2
  refine ⟨l', ?_⟩
  rw [stmtsM_succ, bindM_step (x := false) (j := i) (by unfold isM; rw [mark_out (by rw [h1.1.2.2]; exact hx)])]
  refine (bindM_step ht).trans ?_
  rw [List.length_append, ← Nat.add_assoc]
  exact hl
/-- a block -/
theorem blk_of {d : Nat} {k : Int} {T : List KT} (hk : k ≠ 3) (hk1 : k ≠ 1) (h : BodyL d T) : BlkT (d + 1) ((k, ⟨#[123]⟩) :: T) := by
 refine ⟨k, T, rfl, hk, hk1, h.head, fun r i hT hG => ?_⟩
 have hn := h.ne
 have hl := hT.2.le (by have := hT.1.1; omega)
 obtain ⟨l, hl⟩ := rd_stmts h r (r.L.length + 1) (i + 1) [] (by omega) hT.2
 show ∃ t, blockM r (subL r d).E (subL r d).B i = _
 unfold blockM
 rw [bindM_step (x := (r.L.getD i tok0).at_) (j := i) rfl]
 rw [bindM_step (x := ()) (j := i + 1) (by unfold needM; rw [if_pos (mark_in hT.1.2.2)])]
 rw [bindM_step hl]
 have e : i + 1 + T.length - 1 + 1 = i + ((k, (⟨#[123]⟩ : ByteArray)) :: T).length := by simp; omega
 exact ⟨Tree.mk 30 ⟨#[]⟩ (r.L.getD i tok0).at_ (if noValue l = true then l ++ [.mk 31 ⟨#[]⟩ (r.L.getD (i + 1 + T.length - 1) tok0).at_ []] else l), (bindM_step (x := r.L.getD (i + 1 + T.length - 1) tok0) (j := i + 1 + T.length - 1 + 1) rfl).trans (by rw [e]; rfl)⟩
end Gr
end Go.Proofs.YtheigpiffdabnaaGreat
