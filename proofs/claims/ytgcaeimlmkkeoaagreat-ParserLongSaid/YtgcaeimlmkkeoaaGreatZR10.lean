/-
  CONTRACT: the reference's plain functions are the program's.
-/
import Derived.Test.YtgcaeimlmkkeoaaGreatZR8
import Derived.Test.YtgcaeimlmkkeoaaGreatZR9
set_option linter.unusedSimpArgs false
set_option linter.unusedVariables false
namespace Go.Proofs.YtgcaeimlmkkeoaaGreat
open Go Go.RowKit
theorem tok_in {r : Rdr} {i : Nat} (h : (r.L.getD i tok0).text.toList.isEmpty = false) : i < r.L.length := by
 by_cases hi : i < r.L.length
 ·exact hi
 ·exfalso
  have e : r.L.getD i tok0 = tok0 := by simp [List.getD, List.getElem?_eq_none (Nat.le_of_not_lt hi)]
  rw [e, ByteArray.toList_eq] at h
  cases h
theorem mark_in {r : Rdr} {i : Nat} {sg : ByteArray} (h : isMark r i sg = true) (hs : sg.size ≠ 0) : i < r.L.length := tok_in (mark_full h hs)
theorem mark_text {r : Rdr} {i : Nat} {sg : ByteArray} (h : isMark r i sg = true) : (r.L.getD i tok0).text = sg := bytes_ext (by unfold isMark at h; simpa using h)
theorem full_of {sg : ByteArray} (hs : sg.size ≠ 0) : sg.toList.isEmpty = false := by
 rw [ByteArray.toList_eq]
 cases h : sg.data.toList with
 | nil =>
  exfalso
  apply hs
  show sg.data.size = 0
  rw [← Array.length_toList, h]
  rfl
 | cons a l => rfl
theorem sg_yes {r : Rdr} {V : List ByteArray} {i : Nat} (h : hit (r.L.getD i tok0).text V = true) : signM r V i = .ok ((r.L.getD i tok0).text, i + 1) := by unfold signM; rw [if_pos h]
theorem sg_no {r : Rdr} {V : List ByteArray} {i : Nat} (h : ¬ hit (r.L.getD i tok0).text V = true) : signM r V i = .ok (⟨#[]⟩, i) := by unfold signM; rw [if_neg h]
theorem empty_none : (⟨#[]⟩ : ByteArray).toList.isEmpty = true := by rw [ByteArray.toList_eq]; rfl
/-- signs between operands -/
theorem chain_eq (r : Rdr) (part : PM Tree) (V : List ByteArray) (hup : Up part) : ∀ (f : Nat) (t : Tree) (i : Nat), 1 ≤ f → r.L.length + 1 ≤ f + i → chainM r part V f t i = bindM (signM r V) (chainSK r part V f t) i
 | 0, t, i, h, _ => absurd h (by omega)
 | f + 1, t, i, _, hf => by
  unfold chainM
  by_cases hh : hit (r.L.getD i tok0).text V = true
  ·rw [at_ok (sg_yes hh), at_ok (sg_yes hh)]
   unfold chainSK
   cases he : (r.L.getD i tok0).text.toList.isEmpty
   ·dsimp only
    cases hp : part (i + 1) with
    | error k => rw [at_err hp, at_err hp]
    | ok z =>
     obtain ⟨u, j⟩ := z
     rw [at_ok hp, at_ok hp]
     have h1 := hup _ _ _ hp
     have h2 := tok_in he
     exact chain_eq r part V hup f _ j (by omega) (by omega)
   ·rfl
  ·rw [at_ok (sg_no hh), at_ok (sg_no hh)]
   unfold chainSK
   rw [empty_none]
theorem signsR_eq (r : Rdr) (part : PM Tree) (V : List ByteArray) (hup : Up part) : signsR r part V = chainP r part V := by
 funext i
 unfold signsR chainP
 cases hp : part i with
 | error k => rw [at_err hp, at_err hp]
 | ok z =>
  obtain ⟨t, j⟩ := z
  rw [at_ok hp, at_ok hp]
  exact (chain_eq r part V hup _ t j (by omega) (by omega)).symm
/-- one mark between operands -/
theorem chainT_same (r : Rdr) (part : PM Tree) (sg : ByteArray) (hs : sg.size ≠ 0) (hup : Up part) : ∀ (f : Nat) (t : Tree) (i : Nat), 1 ≤ f → r.L.length + 1 ≤ f + i → chainM r part [sg] f t i = chainT r part sg f t i
 | 0, t, i, h, _ => absurd h (by omega)
 | f + 1, t, i, _, hf => by
  unfold chainM chainT
  by_cases hm : isMark r i sg = true
  ·have hh : hit (r.L.getD i tok0).text [sg] = true := by unfold hit; unfold isMark at hm; simp only [List.any_cons, hm, Bool.true_or]
   rw [at_ok (sg_yes hh), at_ok (tk_yes hm), mark_text hm, full_of hs]
   dsimp only
   cases hp : part (i + 1) with
   | error k => rw [at_err hp, at_err hp]
   | ok z =>
    obtain ⟨u, j⟩ := z
    rw [at_ok hp, at_ok hp]
    have h1 := hup _ _ _ hp
    have h2 := mark_in hm hs
    exact chainT_same r part sg hs hup f _ j (by omega) (by omega)
  ·have hh : ¬ hit (r.L.getD i tok0).text [sg] = true := by unfold hit; unfold isMark at hm; simpa only [List.any_cons, List.any_nil, Bool.or_false] using hm
   rw [at_ok (sg_no hh), at_ok (tk_no hm), empty_none]
theorem takesR_eq (r : Rdr) (part : PM Tree) (sg : ByteArray) (hs : sg.size ≠ 0) (hup : Up part) : takesR r part sg = chainP r part [sg] := by
 funext i
 unfold takesR chainP
 cases hp : part i with
 | error k => rw [at_err hp, at_err hp]
 | ok z =>
  obtain ⟨t, j⟩ := z
  rw [at_ok hp, at_ok hp]
  exact (chainT_same r part sg hs hup _ t j (by omega) (by omega)).symm
/-- fields -/
theorem dots_eq (r : Rdr) : ∀ (f : Nat) (t : Tree) (i : Nat), 1 ≤ f → r.L.length + 1 ≤ f + i → dotsM r f t i = dotsR r f t i
 | 0, t, i, h, _ => absurd h (by omega)
 | f + 1, t, i, _, hf => by
  unfold dotsM dotsR
  by_cases hm : isMark r i ⟨#[46]⟩ = true
  ·rw [at_ok (tk_yes hm), at_ok (tk_yes hm)]
   dsimp only
   by_cases hk : (r.L.getD (i + 1) tok0).kind = 1
   ·rw [at_ok (nm_yes hk), at_ok (nm_yes hk)]
    have h2 := mark_in hm (by decide)
    exact dots_eq r f _ (i + 1 + 1) (by omega) (by omega)
   ·rw [at_err (nm_no hk), at_err (nm_no hk)]
  ·rw [at_ok (tk_no hm), at_ok (tk_no hm)]
theorem postR_eq (r : Rdr) (E Bk : PM Tree) : postR r (primaryM r E Bk) = postM r E Bk := by
 funext i
 unfold postR postM
 cases hp : primaryM r E Bk i with
 | error k => rw [at_err hp, at_err hp]
 | ok z =>
  obtain ⟨t, j⟩ := z
  rw [at_ok hp, at_ok hp]
  exact (dots_eq r _ t j (by omega) (by omega)).symm
theorem words_step (r : Rdr) (k : ByteArray → PM Tree) (rest : PM Tree) (v : ByteArray) (vs : List ByteArray) (i : Nat) : wordsR r k rest (v :: vs) i = if isMark r i v = true then k v (i + 1) else wordsR r k rest vs i := by
 show bindM (tookM r v) (fun b => match b with | true => k v | false => wordsR r k rest vs) i = _
 by_cases hm : isMark r i v = true
 ·rw [at_ok (tk_yes hm), if_pos hm]
 ·rw [at_ok (tk_no hm), if_neg hm]
theorem unaryB_eq (r : Rdr) (E Bk U : PM Tree) : unaryB r (postM r E Bk) U = unaryM r E Bk U := by
 funext i
 unfold unaryB unaryM
 have hh : hereM r i = .ok ((r.L.getD i tok0).at_, i) := rfl
 rw [at_ok hh, at_ok hh]
 unfold Vun
 rw [words_step, words_step]
 by_cases h0 : isMark r i ⟨#[45]⟩ = true
 ·have hv : hit (r.L.getD i tok0).text [⟨#[45]⟩, ⟨#[33]⟩] = true := by unfold hit; have := h0; unfold isMark at this; simp only [List.any_cons, this, Bool.true_or]
  rw [if_pos h0, at_ok (sg_yes hv), mark_text h0, full_of (by decide)]
 ·rw [if_neg h0]
  by_cases h1 : isMark r i ⟨#[33]⟩ = true
  ·have hv : hit (r.L.getD i tok0).text [⟨#[45]⟩, ⟨#[33]⟩] = true := by unfold hit; have := h1; unfold isMark at this; simp only [List.any_cons, this, Bool.true_or, Bool.or_true]
   rw [if_pos h1, at_ok (sg_yes hv), mark_text h1, full_of (by decide)]
  ·have hv : ¬ hit (r.L.getD i tok0).text [⟨#[45]⟩, ⟨#[33]⟩] = true := by
    unfold hit
    unfold isMark at h0 h1
    simp only [List.any_cons, List.any_nil, Bool.or_false, Bool.or_eq_true, not_or]
    exact ⟨h0, h1⟩
   rw [if_neg h1, at_ok (sg_no hv), empty_none]
   rfl
theorem unaryR_eq (r : Rdr) (E Bk U : PM Tree) (lv : Int) (h : lv ≤ 60) : unaryR r (postM r E Bk) U lv = unaryM r E Bk U := by
 funext i
 have hd : deepM lv i = .ok ((), i) := by unfold deepM; rw [if_neg (by omega)]; rfl
 unfold unaryR
 rw [at_ok hd, unaryB_eq]
theorem listR_eq (r : Rdr) (E : PM Tree) : listR r E = argumentsM r E := by
 funext i
 unfold listR argumentsM
 by_cases hm : isMark r i ⟨#[40]⟩ = true
 ·rw [at_ok (nd_yes hm), at_ok (nd_yes hm)]
  unfold upToP
  by_cases hc : isMark r (i + 1) ⟨#[41]⟩ = true
  ·rw [at_ok (tk_yes hc), if_pos hc]; rfl
  ·rw [at_ok (tk_no hc), if_neg hc]
   dsimp only
   rw [manyA_eq, manyM_nil]
   cases hl : listP r ⟨#[44]⟩ E (r.L.length + 1) (i + 1) with
   | error k => rw [at_err hl]
   | ok z =>
    obtain ⟨ts, j⟩ := z
    rw [at_ok hl]
    dsimp only
    by_cases hg : isMark r j ⟨#[41]⟩ = true
    ·rw [at_ok (nd_yes hg), if_pos hg]; rfl
    ·rw [at_err (nd_no hg), if_neg hg]
 ·rw [at_err (nd_no hm), at_err (nd_no hm)]
end Go.Proofs.YtgcaeimlmkkeoaaGreat
namespace Go.Proofs.YtgcaeimlmkkeoaaGreat
open Go Go.RowKit
theorem not_kind {r : Rdr} (hK : Known r.L) {j : Nat} {sg : ByteArray} (hm : isMark r j sg = true) (hs : sg.size ≠ 0) (hk : sg.toList ∈ knownL) : (r.L.getD j tok0).kind ≠ 1 ∧ (r.L.getD j tok0).kind ≠ 3 := by
 have hj := mark_in hm hs
 have h := hK (r.L.getD j tok0) (by rw [getD_eq _ _ _ hj]; exact List.getElem_mem hj) (by rw [mark_text hm]; exact hk)
 omega
theorem argH_same (r : Rdr) (en : ByteArray) (T : PM Tree) (a : Int) (hen : ∀ j, isMark r j en = true → (r.L.getD j tok0).kind ≠ 1) (hT : Up T) :
  ∀ (f : Nat) (ts : List Tree) (i : Nat), 1 ≤ f → r.L.length + 1 ≤ f + i → ¬ isMark r i en = true →
   argH r en T a f ts i = match listP r ⟨#[44]⟩ (argP r T) f i with
    | .error k => .error k
    | .ok (us, j) => if isMark r j en = true then .ok (.mk 12 ⟨#[]⟩ a (ts ++ us), j + 1) else .error j
 | 0, ts, i, h, _, _ => absurd h (by omega)
 | f + 1, ts, i, _, hf, hn => by
  unfold argH
  have h0 : isM r en i = .ok (isMark r i en, i) := rfl
  rw [at_ok h0, eq_false_of_ne_true hn]
  dsimp only
  have h1 : hereM r i = .ok ((r.L.getD i tok0).at_, i) := rfl
  rw [at_ok h1]
  unfold listP
  have hA : argP r T i = if (r.L.getD i tok0).kind = 1 then (if isMark r (i + 1) ⟨#[58]⟩ = true then (match T (i + 2) with | .error k => .error k | .ok (t, j) => .ok (.mk 13 (r.L.getD i tok0).text (r.L.getD i tok0).at_ [t], j)) else .error (i + 1)) else .error i := rfl
  by_cases hk : (r.L.getD i tok0).kind = 1
  ·rw [at_ok (nm_yes hk)]
   rw [if_pos hk] at hA
   by_cases hc : isMark r (i + 1) ⟨#[58]⟩ = true
   ·rw [at_ok (nd_yes hc)]
    rw [if_pos hc] at hA
    have e2 : i + 1 + 1 = i + 2 := rfl
    rw [e2]
    cases ht : T (i + 2) with
    | error k =>
     rw [ht] at hA
     rw [at_err ht, hA]
    | ok z =>
     obtain ⟨t, j⟩ := z
     rw [ht] at hA
     rw [at_ok ht, hA]
     dsimp only
     have hj := hT _ _ _ ht
     by_cases hm : isMark r j ⟨#[44]⟩ = true
     ·rw [at_ok (tk_yes hm), if_pos hm]
      dsimp only
      have hjl := mark_in hm (by decide)
      have h2 : isM r en (j + 1) = .ok (isMark r (j + 1) en, j + 1) := rfl
      rw [at_ok h2]
      by_cases he : isMark r (j + 1) en = true
      ·rw [he]
       obtain ⟨f', rfl⟩ : ∃ f', f = f' + 1 := ⟨f - 1, by omega⟩
       have hB : argP r T (j + 1) = .error (j + 1) := if_neg (hen _ he)
       rw [listP_err hB]
       rfl
      ·rw [eq_false_of_ne_true he]
       dsimp only
       rw [argH_same r en T a hen hT f _ (j + 1) (by omega) (by omega) he]
       cases listP r ⟨#[44]⟩ (argP r T) f (j + 1) with
       | error k => rfl
       | ok y => obtain ⟨us, m⟩ := y; simp
     ·rw [at_ok (tk_no hm), if_neg hm]
      dsimp only
      unfold argFin
      by_cases he : isMark r j en = true
      ·rw [at_ok (nd_yes he), if_pos he]; rfl
      ·rw [at_err (nd_no he), if_neg he]
   ·rw [if_neg hc] at hA
    rw [at_err (nd_no hc), hA]
  ·rw [if_neg hk] at hA
   rw [at_err (nm_no hk), hA]
/-- args, from their opening mark on -/
theorem argsR_eq (r : Rdr) (be en : ByteArray) (T : PM Tree) (hen : ∀ j, isMark r j en = true → (r.L.getD j tok0).kind ≠ 1) (hT : Up T) :
  (bindM (needM r be) fun _ => argsR r en T) = argsP r be en (argP r T) := by
 funext i
 unfold argsP
 by_cases hb : isMark r i be = true
 ·rw [at_ok (nd_yes hb), if_pos hb]
  unfold argsR upToP
  have h1 : hereM r (i + 1) = .ok ((r.L.getD (i + 1) tok0).at_, i + 1) := rfl
  rw [at_ok h1]
  by_cases he : isMark r (i + 1) en = true
  ·rw [if_pos he]
   unfold argH
   have h0 : isM r en (i + 1) = .ok (isMark r (i + 1) en, i + 1) := rfl
   rw [at_ok h0, he]
   dsimp only
   unfold argFin
   rw [at_ok (nd_yes he)]
   rfl
  ·rw [if_neg he, argH_same r en T _ hen hT _ [] (i + 1) (by omega) (by omega) he]
   cases listP r ⟨#[44]⟩ (argP r T) (r.L.length + 1) (i + 1) with
   | error k => rfl
   | ok y =>
    obtain ⟨us, m⟩ := y
    dsimp only
    by_cases hg : isMark r m en = true
    ·rw [if_pos hg, if_pos hg]; rfl
    ·rw [if_neg hg, if_neg hg]
 ·rw [at_err (nd_no hb), if_neg hb]
theorem parH_same (r : Rdr) (a : Int) : ∀ (f : Nat) (ts : List Tree) (i : Nat), parH r a f ts i = match listP r ⟨#[44]⟩ (paramP r) f i with
  | .error k => .error k
  | .ok (us, j) => if isMark r j ⟨#[62]⟩ = true then .ok (.mk 10 ⟨#[]⟩ a (ts ++ us), j + 1) else .error j
 | 0, ts, i => rfl
 | f + 1, ts, i => by
  unfold parH parK
  have h1 : hereM r i = .ok ((r.L.getD i tok0).at_, i) := rfl
  rw [at_ok h1]
  have tail : ∀ (u : Tree) (j : Nat), paramP r i = .ok (u, j) → bindM (tookM r ⟨#[44]⟩) (fun c => match c with | true => parH r a f (ts ++ [u]) | false => parFin r a (ts ++ [u])) j = match listP r ⟨#[44]⟩ (paramP r) (f + 1) i with
    | .error k => .error k
    | .ok (us, j) => if isMark r j ⟨#[62]⟩ = true then .ok (.mk 10 ⟨#[]⟩ a (ts ++ us), j + 1) else .error j := by
   intro u j hp
   unfold listP
   rw [hp]
   dsimp only
   by_cases hm : isMark r j ⟨#[44]⟩ = true
   ·rw [at_ok (tk_yes hm), if_pos hm]
    dsimp only
    rw [parH_same r a f _ (j + 1)]
    cases listP r ⟨#[44]⟩ (paramP r) f (j + 1) with
    | error k => rfl
    | ok y => obtain ⟨us, m⟩ := y; simp
   ·rw [at_ok (tk_no hm), if_neg hm]
    dsimp only
    unfold parFin
    by_cases he : isMark r j ⟨#[62]⟩ = true
    ·rw [at_ok (nd_yes he), if_pos he]; rfl
    ·rw [at_err (nd_no he), if_neg he]
  by_cases hk : (r.L.getD i tok0).kind = 1
  ·rw [at_ok (nm_yes hk)]
   by_cases hc : isMark r (i + 1) ⟨#[58]⟩ = true
   ·rw [at_ok (tk_yes hc)]
    dsimp only
    have h2 : hereM r (i + 1 + 1) = .ok ((r.L.getD (i + 1 + 1) tok0).at_, i + 1 + 1) := rfl
    rw [at_ok h2]
    by_cases hk2 : (r.L.getD (i + 1 + 1) tok0).kind = 1
    ·rw [at_ok (nm_yes hk2)]
     refine tail _ _ ?_
     unfold paramP nameP
     rw [if_pos hk, if_pos hc, if_pos hk2]
    ·rw [at_err (nm_no hk2)]
     have hp : paramP r i = .error (i + 1 + 1) := by
      unfold paramP nameP
      rw [if_pos hk, if_pos hc, if_neg hk2]
     rw [listP_err hp]
   ·rw [at_ok (tk_no hc)]
    dsimp only
    refine tail _ _ ?_
    unfold paramP
    rw [if_pos hk, if_neg hc]
  ·rw [at_err (nm_no hk)]
   have hp : paramP r i = .error i := by
    unfold paramP
    rw [if_neg hk]
   rw [listP_err hp]
theorem paramsR_eq (r : Rdr) : paramsR r = paramsP r := by
 funext i
 unfold paramsR paramsP
 have h1 : hereM r i = .ok ((r.L.getD i tok0).at_, i) := rfl
 rw [at_ok h1]
 by_cases hb : isMark r i ⟨#[60]⟩ = true
 ·rw [at_ok (tk_yes hb), if_pos hb]
  dsimp only
  rw [parH_same]
  cases listP r ⟨#[44]⟩ (paramP r) (r.L.length + 1) (i + 1) with
  | error k => rfl
  | ok y => obtain ⟨us, m⟩ := y; simp
 ·rw [at_ok (tk_no hb), if_neg hb]
  rfl
end Go.Proofs.YtgcaeimlmkkeoaaGreat
namespace Go.Proofs.YtgcaeimlmkkeoaaGreat
open Go Go.RowKit
theorem primR_eq (r : Rdr) (hK : Known r.L) (E Bk : PM Tree) : primR r (argumentsM r E) E Bk (blockM r E Bk) = primaryM r E Bk := by
 funext i
 unfold primR primaryM
 have h0 : tokM r i = .ok (r.L.getD i tok0, i) := rfl
 rw [at_ok h0, at_ok h0]
 obtain ⟨x, hx⟩ : ∃ x, r.L.getD i tok0 = x := ⟨_, rfl⟩
 rw [hx]
 clear h0
 have ism : ∀ sg, isM r sg i = .ok (isB x.text sg, i) := fun sg => by rw [← hx]; rfl
 have tkm : ∀ sg, isB x.text sg = true → isMark r i sg = true := fun sg h => by unfold isMark; rw [hx]; exact h
 have ntk : ∀ sg, ¬ isB x.text sg = true → ¬ isMark r i sg = true := fun sg h => by unfold isMark; rw [hx]; exact h
 have hh : hereM r i = .ok (x.at_, i) := by rw [← hx]; rfl
 have hk : takeM r i = .ok (x, i + 1) := by rw [← hx]; rfl
 unfold primB
 by_cases h3 : x.kind = 3
 ·rw [if_pos h3, if_pos h3]
 rw [if_neg h3, if_neg h3, at_ok (ism _)]
 by_cases ht : isB x.text ⟨#[116, 114, 117, 101]⟩ = true
 ·have hn := (not_kind hK (tkm _ ht) (by decide) (known_of (by decide))).1
  rw [hx] at hn
  rw [ht, if_neg hn, if_pos (.inl rfl)]
  rfl
 rw [eq_false_of_ne_true ht]
 dsimp only
 rw [at_ok (ism _)]
 by_cases hf : isB x.text ⟨#[102, 97, 108, 115, 101]⟩ = true
 ·have hn := (not_kind hK (tkm _ hf) (by decide) (known_of (by decide))).1
  rw [hx] at hn
  rw [hf, if_neg hn, if_pos (.inr rfl)]
  rfl
 rw [eq_false_of_ne_true hf]
 dsimp only
 unfold primC
 by_cases h1 : x.kind = 1
 ·rw [if_pos h1, if_pos h1]
  unfold namedM
  have hn : nameM r i = .ok (x.text, i + 1) := by rw [← hx]; exact nm_yes (by rw [hx]; exact h1)
  rw [at_ok hk, at_ok hh, at_ok hn]
  rfl
 rw [if_neg h1, if_neg h1, if_neg (by simp)]
 unfold primE
 by_cases hw : isB x.text ⟨#[110, 101, 119]⟩ = true
 ·rw [at_ok (tk_yes (tkm _ hw)), if_pos hw]
  unfold constructionM
  rw [at_ok hh, at_ok (nd_yes (tkm _ hw))]
  rfl
 rw [at_ok (tk_no (ntk _ hw)), if_neg hw]
 dsimp only
 unfold primD
 by_cases hp : isB x.text ⟨#[40]⟩ = true
 ·rw [at_ok (tk_yes (tkm _ hp)), if_pos hp]
  unfold parenM
  rw [at_ok (nd_yes (tkm _ hp))]
 rw [at_ok (tk_no (ntk _ hp)), if_neg hp]
 dsimp only
 unfold primF
 by_cases hi : isB x.text ⟨#[105, 102]⟩ = true
 ·rw [at_ok (tk_yes (tkm _ hi)), if_pos hi]
  unfold choiceM
  rw [at_ok hh, at_ok (nd_yes (tkm _ hi))]
 rw [at_ok (tk_no (ntk _ hi)), if_neg hi]
 dsimp only
 rw [at_ok (ism _)]
 by_cases hb : isB x.text ⟨#[123]⟩ = true
 ·rw [hb, if_pos rfl]
 ·rw [eq_false_of_ne_true hb, if_neg (by decide)]
theorem bind_assoc3 {α β γ : Type} (p : PM α) (f : α → PM β) (g : β → PM γ) : bindM (bindM p f) g = bindM p fun x => bindM (f x) g := by
 funext i
 unfold bindM
 cases p i with
 | error k => rfl
 | ok z => rfl
theorem funK_eq (r : Rdr) (hK : Known r.L) (T Bk : PM Tree) (hT : Up T) (a : Int) (nm : ByteArray) (p : Tree) :
  funK r T Bk a nm p = bindM (argsC r T) fun q => bindM (resultP r T) fun o => bindM Bk fun b => ndM 4 nm a [p, q, o, b] := by
 unfold funK argsC
 rw [← argsR_eq r ⟨#[40]⟩ ⟨#[41]⟩ T (fun j hm => (not_kind hK hm (by decide) (known_of (by decide))).1) hT, bind_assoc3, resultR_eq]
/-- fun, behind its word -/
theorem funR_eq (r : Rdr) (hK : Known r.L) (T Bk : PM Tree) (hT : Up T) (flag : Bool) :
  (bindM (hereM r) fun a => bindM (needM r ⟨#[102, 110]⟩) fun _ => funR r flag T Bk a) = functionM r (match flag with | true => paramsP r | false => noParamsP r) T Bk := by
 unfold functionM funR
 congr 1
 funext a
 congr 1
 funext _
 congr 1
 funext nm
 cases flag with
 | true =>
  funext i
  have h1 : hereM r i = .ok ((r.L.getD i tok0).at_, i) := rfl
  rw [at_ok h1]
  dsimp only
  rw [paramsR_eq]
  congr 1
  funext p
  rw [funK_eq r hK T Bk hT]
 | false =>
  funext i
  have h1 : hereM r i = .ok ((r.L.getD i tok0).at_, i) := rfl
  have h2 : noParamsP r i = .ok (.mk 10 ⟨#[]⟩ (r.L.getD i tok0).at_ [], i) := rfl
  rw [at_ok h1]
  dsimp only
  rw [at_ok h2, funK_eq r hK T Bk hT]
end Go.Proofs.YtgcaeimlmkkeoaaGreat
namespace Go.Proofs.YtgcaeimlmkkeoaaGreat
open Go Go.RowKit
theorem bind_eq {α β : Type} {p : PM α} {f g : α → PM β} {i : Nat} (h : ∀ x j, p i = .ok (x, j) → f x j = g x j) : bindM p f i = bindM p g i := by
 unfold bindM
 cases hp : p i with
 | error k => rfl
 | ok z => obtain ⟨x, j⟩ := z; exact h x j hp
theorem noValue_snoc (ts : List Tree) (t : Tree) : noValue (ts ++ [t]) = isStmtK t.kind := by unfold noValue; simp
/-- the end of a block -/
def finM (r : Rdr) (a : Int) (l : List Tree) : PM Tree := bindM (takeM r) fun x => ndM 30 ⟨#[]⟩ a (if noValue l = true then l ++ [.mk 31 ⟨#[]⟩ x.at_ []] else l)
theorem blk_same (r : Rdr) (E Bk : PM Tree) (a : Int) (hK : Known r.L) (hEq : ∀ j, isMark r j ⟨#[61]⟩ = true → (r.L.getD j tok0).kind = 4) (hE : UpS E) (hB : Up Bk) (hv : ∀ i t j, E i = .ok (t, j) → isStmtK t.kind = false) :
  ∀ (f : Nat) (ts : List Tree) (i : Nat), r.L.length + 1 ≤ f + i → noValue ts = true → stH r E Bk a f ts i = bindM (stmtsM r E Bk f ts) (finM r a) i
 | 0, ts, i, _, _ => rfl
 | f + 1, ts, i, hf, hts => by
  have go : ∀ (t : Tree) (j : Nat), i < j → isStmtK t.kind = true → stH r E Bk a f (ts ++ [t]) j = bindM (stmtsM r E Bk f (ts ++ [t])) (finM r a) j := fun t j hj ht =>
   blk_same r E Bk a hK hEq hE hB hv f (ts ++ [t]) j (by omega) (by rw [noValue_snoc]; exact ht)
  have val : stD r E a ts (stH r E Bk a f) i = bindM (valueM r E) (fun t => bindM (stmtsM r E Bk f (ts ++ [t])) (finM r a)) i := by
   unfold stD valueM
   rw [bind_assoc3]
   refine bind_eq fun e j he => ?_
   have hj := hE _ _ _ he
   by_cases hc : isMark r j ⟨#[125]⟩ = true
   ·have hjl := mark_in hc (by decide)
    have h2 : isM r ⟨#[125]⟩ j = .ok (isMark r j ⟨#[125]⟩, j) := rfl
    rw [at_ok (tk_yes hc), bind_assoc3, at_ok h2, hc]
    dsimp only
    obtain ⟨f', rfl⟩ : ∃ f', f = f' + 1 := ⟨f - 1, by omega⟩
    show _ = bindM (stmtsM r E Bk (f' + 1) (ts ++ [e])) (finM r a) j
    unfold stmtsM
    rw [bind_assoc3, at_ok h2, hc]
    dsimp only
    show _ = finM r a (ts ++ [e]) j
    unfold finM
    rw [noValue_snoc, hv _ _ _ he]
    rfl
   ·have h2 : isM r ⟨#[125]⟩ j = .ok (isMark r j ⟨#[125]⟩, j) := rfl
    rw [at_ok (tk_no hc), bind_assoc3, at_ok h2, eq_false_of_ne_true hc]
    dsimp only
    rw [bind_assoc3]
    refine bind_eq fun _ j2 e2 => ?_
    exact go _ j2 (by have := ups_need r _ _ _ _ e2; omega) rfl
  have h0 : tokM r i = .ok (r.L.getD i tok0, i) := rfl
  have ism : ∀ sg, isM r sg i = .ok (isMark r i sg, i) := fun sg => rfl
  have hh : hereM r i = .ok ((r.L.getD i tok0).at_, i) := rfl
  unfold stH stK stmtsM
  rw [at_ok h0, at_ok (ism _), bind_assoc3, at_ok (ism _)]
  by_cases hc : isMark r i ⟨#[125]⟩ = true
  ·rw [hc]
   dsimp only
   show _ = finM r a ts i
   unfold finM
   rw [hts]
   rfl
  rw [eq_false_of_ne_true hc]
  dsimp only
  rw [bind_assoc3]
  unfold stL stmtM
  by_cases hl : isMark r i ⟨#[108, 101, 116]⟩ = true
  ·rw [at_ok (tk_yes hl), bind_assoc3, at_ok (ism _), hl]
   dsimp only
   unfold stL2 letM storeM
   rw [bind_assoc3, at_ok hh, bind_assoc3, at_ok (nd_yes hl)]
   simp only [bind_assoc3]
   refine bind_eq fun nm j1 e1 => bind_eq fun _ j2 e2 => bind_eq fun e j3 e3 => bind_eq fun _ j4 e4 => ?_
   exact go _ j4 (by have := ups_name r _ _ _ e1; have := ups_need r _ _ _ _ e2; have := hE _ _ _ e3; have := ups_need r _ _ _ _ e4; omega) rfl
  rw [at_ok (tk_no hl), bind_assoc3, at_ok (ism _), eq_false_of_ne_true hl]
  dsimp only
  rw [bind_assoc3, at_ok (ism _)]
  unfold stA
  by_cases hw : isMark r i ⟨#[119, 104, 105, 108, 101]⟩ = true
  ·have h1 := (not_kind hK hw (by decide) (known_of (by decide))).1
   rw [if_neg h1, hw]
   dsimp only
   unfold stW whileM
   rw [at_ok (tk_yes hw), bind_assoc3, at_ok hh, bind_assoc3, at_ok (nd_yes hw)]
   simp only [bind_assoc3]
   refine bind_eq fun c j1 e1 => bind_eq fun b j2 e2 => ?_
   exact go _ j2 (by have := hE _ _ _ e1; have := hB _ _ _ e2; omega) rfl
  rw [eq_false_of_ne_true hw]
  dsimp only
  rw [bind_assoc3, at_ok (ism _)]
  by_cases hp : isMark r i ⟨#[112, 114, 105, 110, 116]⟩ = true
  ·have h1 := (not_kind hK hp (by decide) (known_of (by decide))).1
   rw [if_neg h1, hp]
   dsimp only
   unfold stW stP printM
   rw [at_ok (tk_no hw)]
   dsimp only
   rw [at_ok (tk_yes hp), bind_assoc3, at_ok hh, bind_assoc3, at_ok (nd_yes hp)]
   simp only [bind_assoc3]
   refine bind_eq fun e j1 e1 => bind_eq fun _ j2 e2 => ?_
   exact go _ j2 (by have := hE _ _ _ e1; have := ups_need r _ _ _ _ e2; omega) rfl
  rw [eq_false_of_ne_true hp]
  dsimp only
  rw [bind_assoc3, at_ok h0]
  have hW : stW r E Bk a ts (stH r E Bk a f) (r.L.getD i tok0) i = stD r E a ts (stH r E Bk a f) i := by
   unfold stW stP
   rw [at_ok (tk_no hw)]
   dsimp only
   rw [at_ok (tk_no hp)]
  by_cases h1 : (r.L.getD i tok0).kind = 1
  ·rw [if_pos h1, decide_eq_true h1]
   dsimp only
   have hpk : peekM r i = .ok ((r.L.getD (i + 1) tok0).text, i) := rfl
   have haf : aftM r ⟨#[61]⟩ i = .ok (isAft r i ⟨#[61]⟩, i) := rfl
   rw [at_ok haf, bind_assoc3, at_ok hpk]
   have hAB : isAft r i ⟨#[61]⟩ = isMark r (i + 1) ⟨#[61]⟩ := by
    unfold isAft
    by_cases hm : isMark r (i + 1) ⟨#[61]⟩ = true
    ·have hj := mark_in hm (by decide)
     have hk := hEq _ hm
     rw [decide_eq_true hj, decide_eq_true hk]
     rfl
    ·have hm2 := eq_false_of_ne_true hm
     unfold isMark at hm2
     rw [hm2, Bool.and_false]
     unfold isMark
     exact hm2.symm
   have hBB : isB (r.L.getD (i + 1) tok0).text ⟨#[61]⟩ = isMark r (i + 1) ⟨#[61]⟩ := rfl
   rw [hAB, hBB]
   by_cases hq : isMark r (i + 1) ⟨#[61]⟩ = true
   ·rw [hq]
    dsimp only
    unfold stA2 assignM storeM
    have t1 : takeM r i = .ok (r.L.getD i tok0, i + 1) := rfl
    have t2 : takeM r (i + 1) = .ok (r.L.getD (i + 1) tok0, i + 1 + 1) := rfl
    rw [at_ok t1, at_ok t2, bind_assoc3, at_ok hh, bind_assoc3, at_ok (nm_yes h1), bind_assoc3, at_ok (nd_yes hq)]
    simp only [bind_assoc3]
    refine bind_eq fun e j1 e1 => bind_eq fun _ j2 e2 => ?_
    exact go _ j2 (by have := hE _ _ _ e1; have := ups_need r _ _ _ _ e2; omega) rfl
   ·rw [eq_false_of_ne_true hq]
    dsimp only
    rw [hW]
    exact val
  ·rw [if_neg h1, decide_eq_false h1]
   dsimp only
   rw [hW]
   exact val
theorem blkB_eq (r : Rdr) (E Bk : PM Tree) (hK : Known r.L) (hEq : ∀ j, isMark r j ⟨#[61]⟩ = true → (r.L.getD j tok0).kind = 4) (hE : UpS E) (hB : Up Bk) (hv : ∀ i t j, E i = .ok (t, j) → isStmtK t.kind = false) : blkB r E Bk = blockM r E Bk := by
 funext i
 unfold blkB blockM
 refine bind_eq fun a j1 e1 => bind_eq fun _ j2 e2 => ?_
 exact blk_same r E Bk a hK hEq hE hB hv _ [] j2 (by omega) rfl
theorem blkR_eq (r : Rdr) (E Bk : PM Tree) (lv : Int) (h : lv ≤ 60) (hK : Known r.L) (hEq : ∀ j, isMark r j ⟨#[61]⟩ = true → (r.L.getD j tok0).kind = 4) (hE : UpS E) (hB : Up Bk) (hv : ∀ i t j, E i = .ok (t, j) → isStmtK t.kind = false) : blkR r E Bk lv = blockM r E Bk := by
 funext i
 have hd : deepM lv i = .ok ((), i) := by unfold deepM; rw [if_neg (by omega)]; rfl
 unfold blkR
 rw [at_ok hd, blkB_eq r E Bk hK hEq hE hB hv]
end Go.Proofs.YtgcaeimlmkkeoaaGreat
namespace Go.Proofs.YtgcaeimlmkkeoaaGreat
open Go Go.RowKit
/-- its nodes are values -/
def KindV (p : PM Tree) : Prop := ∀ i t j, p i = .ok (t, j) → isStmtK t.kind = false
theorem kv_bind {α : Type} {p : PM α} {f : α → PM Tree} (h : ∀ x, KindV (f x)) : KindV (bindM p f) := fun i t j e => by
 obtain ⟨x, k, _, h2⟩ := bindM_split e
 exact h x k t j h2
theorem kv_bind2 {p : PM Tree} {f : Tree → PM Tree} (hp : KindV p) (h : ∀ x, isStmtK x.kind = false → KindV (f x)) : KindV (bindM p f) := fun i t j e => by
 obtain ⟨x, k, h1, h2⟩ := bindM_split e
 exact h x (hp _ _ _ h1) k t j h2
theorem kv_pure {t : Tree} (h : isStmtK t.kind = false) : KindV (pureM t) := fun i u j e => by
 unfold pureM at e
 cases e
 exact h
theorem kv_nd {k : Int} (s : ByteArray) (a : Int) (l : List Tree) (h : isStmtK k = false) : KindV (ndM k s a l) := kv_pure h
theorem kv_fail : KindV failM := fun i t j e => by cases e
theorem kv_if {c : Prop} [Decidable c] {p q : PM Tree} (hp : KindV p) (hq : KindV q) : KindV (if c then p else q) := by split <;> assumption
theorem kv_chain (r : Rdr) (part : PM Tree) (V : List ByteArray) : ∀ (f : Nat) (t : Tree), isStmtK t.kind = false → KindV (chainM r part V f t)
 | 0, t, _ => kv_fail
 | f + 1, t, h => by
  unfold chainM
  refine kv_bind fun sg => ?_
  cases sg.toList.isEmpty
  ·exact kv_bind fun u => kv_chain r part V f _ rfl
  ·exact kv_pure h
theorem kv_chainP {r : Rdr} {part : PM Tree} (V : List ByteArray) (h : KindV part) : KindV (chainP r part V) := kv_bind2 h fun t ht => kv_chain r part V _ t ht
theorem kv_dots (r : Rdr) : ∀ (f : Nat) (t : Tree), isStmtK t.kind = false → KindV (dotsM r f t)
 | 0, t, _ => kv_fail
 | f + 1, t, h => by
  unfold dotsM
  refine kv_bind fun b => ?_
  cases b
  ·exact kv_pure h
  ·exact kv_bind fun nm => kv_dots r f _ rfl
theorem kv_block (r : Rdr) (E Bk : PM Tree) : KindV (blockM r E Bk) := kv_bind fun a => kv_bind fun _ => kv_bind fun l => kv_bind fun x => kv_nd _ _ _ rfl
theorem kv_named (r : Rdr) (E : PM Tree) : KindV (namedM r E) := by
 refine kv_bind fun a => kv_bind fun nm => kv_bind fun b => ?_
 cases b
 ·refine kv_bind fun c => ?_
  cases c
  ·exact kv_nd _ _ _ rfl
  ·exact kv_bind fun l => kv_nd _ _ _ rfl
 ·exact kv_bind fun l => kv_nd _ _ _ rfl
theorem kv_primary (r : Rdr) (E Bk : PM Tree) (hE : KindV E) : KindV (primaryM r E Bk) := by
 refine kv_bind fun x => ?_
 refine kv_if (kv_bind fun _ => kv_nd _ _ _ rfl) (kv_if (kv_named r E) (kv_if (kv_bind fun _ => kv_nd _ _ _ rfl) (kv_if ?_ (kv_if ?_ (kv_if ?_ (kv_if (kv_block r E Bk) kv_fail))))))
 ·exact kv_bind fun a => kv_bind fun _ => kv_bind fun nm => kv_bind fun l => kv_nd _ _ _ rfl
 ·exact kv_bind fun _ => kv_bind2 hE fun t ht => kv_bind fun _ => kv_pure ht
 ·exact kv_bind fun a => kv_bind fun _ => kv_bind fun c => kv_bind fun y => kv_bind fun _ => kv_bind fun n => kv_nd _ _ _ rfl
theorem kv_post (r : Rdr) (E Bk : PM Tree) (hE : KindV E) : KindV (postM r E Bk) := kv_bind2 (kv_primary r E Bk hE) fun t ht => kv_dots r _ t ht
theorem kv_unary (r : Rdr) (E Bk U : PM Tree) (hE : KindV E) : KindV (unaryM r E Bk U) := by
 refine kv_bind fun a => kv_bind fun sg => ?_
 cases sg.toList.isEmpty
 ·exact kv_bind fun t => kv_nd _ _ _ rfl
 ·exact kv_post r E Bk hE
theorem kv_rel (r : Rdr) (E Bk U : PM Tree) (hE : KindV E) : KindV (relM r E Bk U) := by
 refine kv_bind2 (kv_chainP _ (kv_chainP _ (kv_unary r E Bk U hE))) fun t ht => kv_bind fun sg => ?_
 cases sg.toList.isEmpty
 ·exact kv_bind fun u => kv_pure rfl
 ·exact kv_pure ht
theorem kv_expr (r : Rdr) (E Bk U : PM Tree) (hE : KindV E) : KindV (exprM r E Bk U) := kv_chainP _ (kv_chainP _ (kv_rel r E Bk U hE))
theorem kv_sub (r : Rdr) : ∀ d, KindV (subL r d).E
 | 0 => kv_fail
 | d + 1 => kv_expr r _ _ _ (kv_sub r d)
/-- a mark of one byte is of the kind of marks -/
def EqMark (L : List Lx.Tok) : Prop := ∀ t ∈ L, t.text.toList = [61] → t.kind = 4
theorem EqMark.at_ {r : Rdr} (h : EqMark r.L) (j : Nat) (hm : isMark r j ⟨#[61]⟩ = true) : (r.L.getD j tok0).kind = 4 := by
 have hj := mark_in hm (by decide)
 refine h _ (by rw [getD_eq _ _ _ hj]; exact List.getElem_mem hj) ?_
 rw [mark_text hm, ByteArray.toList_eq]
theorem eq_kind (c : UInt8) (l : Lx.Bs) (h : ((c :: l).take (Lx.tokLen (c :: l))) = [61]) : Lx.tokKind (c :: l) = 4 := by
 unfold Lx.tokKind Lx.tokLen at *
 by_cases hr : 0 < Lx.runLen (c :: l)
 ·exfalso
  rw [if_pos hr] at h
  have hp : (c :: l).take (Lx.runLen (c :: l)) = (c :: l).takeWhile Lx.runB := ((List.prefix_iff_eq_take.1 (List.takeWhile_prefix Lx.runB))).symm
  have ha : ((c :: l).takeWhile Lx.runB).all Lx.runB = true := List.all_takeWhile
  rw [← hp, h] at ha
  exact absurd ha (by decide)
 ·rw [if_neg hr] at h ⊢
  by_cases hm : 0 < Lx.markLen (c :: l)
  ·rw [if_pos hm]
  ·exfalso
   rw [if_neg hm] at h
   have h1 : c = 61 := by
    have : [c] = [61] := h
    simpa using this
   subst h1
   apply hm
   show 0 < (if Lx.twoM ((61 :: l).take 2) = true then 2 else if Lx.markI ((61 : UInt8).toNat : Int) = true then 1 else 0)
   rw [if_pos (show Lx.markI ((61 : UInt8).toNat : Int) = true by decide)]
   split <;> decide
theorem scan_eqMark {l : Lx.Bs} {a : Nat} {T : List Lx.Tok} (h : Lx.Scan l a T) : EqMark T := by
 induction h with
 | fin a =>
  intro t ht hk
  have : t = ⟨0, ByteArray.empty, a⟩ := by simpa using ht
  subst this
  have e : (ByteArray.empty : ByteArray).toList = [] := by rw [ByteArray.toList_eq]; rfl
  simp only [e] at hk
  cases hk
 | blank c l a T hb h ih => exact ih
 | comm c l a T hb hc h ih => exact ih
 | tok c l a T hb hc h ih =>
  intro t ht hk
  rcases List.mem_cons.1 ht with rfl | ht
  ·refine eq_kind c l ?_
   have : (Lx.tokOf (c :: l) a).text.toList = (c :: l).take (Lx.tokLen (c :: l)) := by
    unfold Lx.tokOf
    rw [ByteArray.toList_eq, Lx.mk_data]
   rwa [this] at hk
  ·exact ih t ht hk
end Go.Proofs.YtgcaeimlmkkeoaaGreat
namespace Go.Proofs.YtgcaeimlmkkeoaaGreat
open Go Go.RowKit
/-- a rule of the reference with a level does what the plain one does, from any state -/
def AtLv (r : Rdr) (s : Bool) (F : FuncId) (lv : Int) (p : PM Tree) : Prop := ∀ σ w, RrAt r σ s w → Calls Tryz.prog F #[.pointer (some ⟨r.b, 0, none⟩), .int .i64 lv] w (RrPost r p σ s w)
/-- what stands one level deeper -/
structure Below1 (r : Rdr) (s : Bool) (lv : Int) (E Bk U : PM Tree) : Prop where
 e : AtLv r s 38 lv E
 b : AtLv r s 88 lv Bk
 u : AtLv r s 137 lv U
theorem deep_ok {lv : Int} {σ : Except Nat Nat} (h : ∃ j, after (deepM lv) σ = .ok j) : lv ≤ 60 := by
 obtain ⟨j, hj⟩ := h
 rcases Decidable.em (60 < lv) with hl | hl
 ·exfalso
  have hd : deepM lv = failM := by unfold deepM; rw [if_pos hl]
  rw [hd] at hj
  cases σ <;> cases hj
 ·omega
/-- from where a rule of the last level begins: only from a fault -/
def Late (lv : Int) (σ : Except Nat Nat) : Prop := ∀ j, σ = .ok j → lv ≤ 60
theorem Late.err {lv : Int} {a b : Except Nat Nat} (h : Late lv a) (he : Err a b) : Late lv b := fun j e => by
 subst e
 obtain ⟨k, hk⟩ := he.ok
 exact h k hk
theorem late_deep (lv : Int) (σ : Except Nat Nat) : Late lv (after (deepM lv) σ) := fun j e => deep_ok ⟨j, e⟩
section
variable {r : Rdr} {s : Bool} {lv : Int} {E Bk U : PM Tree}
theorem lvBlock (hlv : 1 ≤ lv ∧ lv ≤ 1000) (hE : EndAt r) (hK : Known r.L) (uE : UpS E) (uB : Up Bk) (hD : lv ≤ 60 → Below1 r s (lv + 1) E Bk U) : AtLv r s 88 lv (blkR r E Bk lv) := fun σ w h =>
 rBlock_any r σ s E Bk lv hlv uE uB w h hE hK (fun σ1 w1 hj h1 => (hD (deep_ok hj)).e σ1 w1 h1) (fun σ1 w1 hj h1 => (hD (deep_ok hj)).b σ1 w1 h1)
theorem lvPrimary (hlv : 1 ≤ lv ∧ lv ≤ 1000) (hE : EndAt r) (hK : Known r.L) (hI : IntAt r) (uE : UpS E) (uB : Up Bk) (hD : lv ≤ 60 → Below1 r s (lv + 1) E Bk U) (σ : Except Nat Nat) (w : World) (hl : Late lv σ) (h : RrAt r σ s w) :
  Calls Tryz.prog 147 #[.pointer (some ⟨r.b, 0, none⟩), .int .i64 lv] w (RrPost r (primR r (listR r E) E Bk (blkR r E Bk lv)) σ s w) :=
 rPrimary_any r σ s (listR r E) E Bk (blkR r E Bk lv) lv hlv w h hE hK hI
  (fun σ1 w1 hj h1 => rList_any r σ1 s E lv hlv uE.up w1 h1 hE hK (fun σ2 w2 _ h2 => by obtain ⟨j, hj⟩ := hj; exact (hD (hl j hj)).e σ2 w2 h2))
  (fun σ1 w1 hj h1 => by obtain ⟨j, hj⟩ := hj; exact (hD (hl j hj)).e σ1 w1 h1)
  (fun σ1 w1 hj h1 => by obtain ⟨j, hj⟩ := hj; exact (hD (hl j hj)).b σ1 w1 h1)
  (fun σ1 w1 _ h1 => lvBlock hlv hE hK uE uB hD σ1 w1 h1)
theorem lvPost (hlv : 1 ≤ lv ∧ lv ≤ 1000) (hE : EndAt r) (hK : Known r.L) (hI : IntAt r) (uE : UpS E) (uB : Up Bk) (hD : lv ≤ 60 → Below1 r s (lv + 1) E Bk U) (σ : Except Nat Nat) (w : World) (hl : Late lv σ) (h : RrAt r σ s w) :
  Calls Tryz.prog 141 #[.pointer (some ⟨r.b, 0, none⟩), .int .i64 lv] w (RrPost r (postR r (primR r (listR r E) E Bk (blkR r E Bk lv))) σ s w) :=
 rPost_any r σ s _ lv w h hE hK fun σ1 w1 he h1 => lvPrimary hlv hE hK hI uE uB hD σ1 w1 (hl.err he) h1
/-- the plain operand of a level -/
def opR (r : Rdr) (E Bk U : PM Tree) (lv : Int) : PM Tree := unaryR r (postR r (primR r (listR r E) E Bk (blkR r E Bk lv))) U lv
theorem lvUnary (hlv : 1 ≤ lv ∧ lv ≤ 1000) (hE : EndAt r) (hK : Known r.L) (hI : IntAt r) (uE : UpS E) (uB : Up Bk) (hD : lv ≤ 60 → Below1 r s (lv + 1) E Bk U) : AtLv r s 137 lv (opR r E Bk U lv) := fun σ w h =>
 rUnary_any r σ s _ U lv hlv w h hE hK (fun σ1 w1 hj h1 => (hD (deep_ok hj)).u σ1 w1 h1) (fun σ1 w1 he h1 => lvPost hlv hE hK hI uE uB hD σ1 w1 ((late_deep lv σ).err he) h1)
/-- the plain functions above an operand -/
def relO (r : Rdr) (O : PM Tree) : PM Tree := onceR r (chainP r (chainP r O Vmul) Vadd) Vrel
def exprO (r : Rdr) (O : PM Tree) : PM Tree := chainP r (chainP r (relO r O) Vand) Vor
theorem ups_relO {O : PM Tree} (h : UpS O) : UpS (relO r O) := ups_bind (ups_chain (ups_chain h)) fun t => up_bind (up_sign r _) fun sg => by
 cases sg.toList.isEmpty
 ·exact up_bind (ups_chain (ups_chain h)).up fun u => up_pure _
 ·exact up_pure _
theorem lvExpr {O : PM Tree} (hE : EndAt r) (hK : Known r.L) (uO : UpS O) (hO : AtLv r s 137 lv O) : AtLv r s 38 lv (bindM (deepM lv) fun _ => exprO r O) := by
 have hProd : AtLv r s 132 lv (chainP r O Vmul) := fun σ w h => by
  rw [← signsR_eq r O Vmul uO.up]
  exact rProd_any r σ s O lv uO w h hE hK fun σ1 w1 _ h1 => hO σ1 w1 h1
 have uP : UpS (chainP r O Vmul) := ups_chain uO
 have hSum : AtLv r s 120 lv (chainP r (chainP r O Vmul) Vadd) := fun σ w h => by
  rw [← signsR_eq r _ Vadd uP.up]
  exact rSum_any r σ s _ lv uP w h hE hK fun σ1 w1 _ h1 => hProd σ1 w1 h1
 have uS : UpS (chainP r (chainP r O Vmul) Vadd) := ups_chain uP
 have hRel : AtLv r s 91 lv (relO r O) := fun σ w h =>
  rRel_any r σ s _ lv uS w h hE hK fun σ1 w1 _ h1 => hSum σ1 w1 h1
 have uR : UpS (relO r O) := ups_relO uO
 have hAnd : AtLv r s 68 lv (chainP r (relO r O) Vand) := fun σ w h => by
  unfold Vand
  rw [← takesR_eq r _ ⟨#[38, 38]⟩ (by decide) uR.up]
  exact rAnd_any r σ s _ lv uR.up w h hE hK fun σ1 w1 _ h1 => hRel σ1 w1 h1
 have uA : UpS (chainP r (relO r O) Vand) := ups_chain uR
 intro σ w h
 unfold exprO Vor
 rw [← takesR_eq r _ ⟨#[124, 124]⟩ (by decide) uA.up]
 exact rExpr_any r σ s _ lv uA.up w h hE hK fun σ1 w1 _ h1 => hAnd σ1 w1 h1
end
theorem over_bind {lv : Int} (h : 60 < lv) {α : Type} (f : Unit → PM α) : bindM (deepM lv) f = failM := by
 have hd : deepM lv = failM := by unfold deepM; rw [if_pos h]
 rw [hd]; rfl
theorem under_bind {lv : Int} (h : lv ≤ 60) {α : Type} (f : Unit → PM α) : bindM (deepM lv) f = f () := by
 have hd : deepM lv = pureM () := by unfold deepM; rw [if_neg (by omega)]
 rw [hd]; rfl
theorem ups_failT : UpS (failM : PM Tree) := fun i x j e => by cases e
theorem exprO_eq (r : Rdr) (E Bk U : PM Tree) : exprO r (unaryM r E Bk U) = exprM r E Bk U := rfl
/-- all levels -/
theorem lv_any (r : Rdr) (s : Bool) (hE : EndAt r) (hK : Known r.L) (hI : IntAt r) (hQ : EqMark r.L) : ∀ d : Nat, d ≤ 60 → Below1 r s (61 - (d : Int)) (subL r d).E (subL r d).B (subL r d).U
 | 0, _ => by
  have hD : (61 : Int) ≤ 60 → Below1 r s (61 + 1) (failM : PM Tree) failM failM := fun h => absurd h (by decide)
  have hb := lvBlock (r := r) (s := s) (lv := 61) (E := failM) (Bk := failM) (U := failM) (by decide) hE hK ups_failT ups_failT.up hD
  have hu := lvUnary (r := r) (s := s) (lv := 61) (E := failM) (Bk := failM) (U := failM) (by decide) hE hK hI ups_failT ups_failT.up hD
  have eb : blkR r failM failM 61 = failM := by unfold blkR; exact over_bind (lv := 61) (by decide) _
  have eu : opR r failM failM failM 61 = failM := by unfold opR unaryR; exact over_bind (lv := 61) (by decide) _
  rw [eb] at hb
  rw [eu] at hu
  have he := lvExpr hE hK ups_failT hu
  rw [over_bind (lv := 61) (by decide)] at he
  exact ⟨he, hb, hu⟩
 | d + 1, hd => by
  have hD := lv_any r s hE hK hI hQ d (by omega)
  obtain ⟨u1, u2, u3⟩ := ups_sub r d
  have kv := kv_sub r d
  obtain ⟨lv, hlv⟩ : ∃ lv : Int, lv = 61 - ((d + 1 : Nat) : Int) := ⟨_, rfl⟩
  have e1 : (61 : Int) - (d : Int) = lv + 1 := by omega
  rw [e1] at hD
  rw [← hlv]
  have hl : 1 ≤ lv ∧ lv ≤ 1000 := by omega
  have hb := lvBlock hl hE hK u1 u2.up (fun _ => hD)
  have hu := lvUnary hl hE hK hI u1 u2.up (fun _ => hD)
  have eb : blkR r (subL r d).E (subL r d).B lv = blockM r (subL r d).E (subL r d).B := blkR_eq r _ _ lv (by omega) hK hQ.at_ u1 u2.up kv
  have eu : opR r (subL r d).E (subL r d).B (subL r d).U lv = unaryM r (subL r d).E (subL r d).B (subL r d).U := by
   unfold opR
   rw [eb, listR_eq, primR_eq r hK, postR_eq, unaryR_eq r _ _ _ lv (by omega)]
  rw [eb] at hb
  rw [eu] at hu
  have he := lvExpr hE hK (ups_unary u1 u2.up u3) hu
  rw [under_bind (by omega), exprO_eq] at he
  exact ⟨he, hb, hu⟩
/-- an expr of the reference -/
theorem rExprT_any (r : Rdr) (s : Bool) (hE : EndAt r) (hK : Known r.L) (hI : IntAt r) (hQ : EqMark r.L) : AtLv r s 38 1 (subL r 60).E := (lv_any r s hE hK hI hQ 60 (Nat.le_refl _)).e
theorem rBlockT_any (r : Rdr) (s : Bool) (hE : EndAt r) (hK : Known r.L) (hI : IntAt r) (hQ : EqMark r.L) : AtLv r s 88 1 (subL r 60).B := (lv_any r s hE hK hI hQ 60 (Nat.le_refl _)).b
end Go.Proofs.YtgcaeimlmkkeoaaGreat
