/-
  PLAIN: the items of tokens that lie within another list, read one after the other.
-/
import Derived.Test.YtheigpiffdabnaaGreatZP2
import Derived.Test.YtheigpiffdabnaaGreatZA2
set_option linter.unusedSimpArgs false
set_option linter.unusedVariables false
namespace Go.Proofs.YtheigpiffdabnaaGreat
open Go Go.RowKit
/-- errors are only added -/
theorem modM_errs {L : List Lx.Tok} {p : PM Tree} : ∀ (f k : Nat) (ts : List Tree) (es : List Int) (x : List Tree) (e : List Int), modM L p f k ts es = some (x, e) → ∃ d, e = es ++ d
 | 0, k, ts, es, x, e, h => by cases h
 | f + 1, k, ts, es, x, e, h => by
  unfold modM at h
  by_cases h0 : (L.getD k tok0).kind = 0
  ·rw [if_pos h0] at h
   simp only [Option.some.injEq, Prod.mk.injEq] at h
   exact ⟨[], by simp [h.2]⟩
  ·rw [if_neg h0] at h
   cases hp : p k with
   | ok z =>
    obtain ⟨t, j⟩ := z
    rw [hp] at h
    exact modM_errs f j _ _ _ _ h
   | error j =>
    rw [hp] at h
    obtain ⟨d, hd⟩ := modM_errs f _ _ _ _ _ h
    exact ⟨_, by rw [hd, List.append_assoc]⟩
/-- a part without errors: where it ends the other list is read on -/
theorem mod_part {r r' : Rdr} {o n : Nat} (S : Seg r r' o n) (hT : Toks r.L) (hn : r.L.length = n + 1) (hk : ∀ i, i < n → (r.L.getD i tok0).kind ≠ 0) :
  ∀ (f k : Nat) (ts x : List Tree), k ≤ n → modM r.L (itemT r) f k ts [] = some (x, []) → ∀ (ts' : List Tree) (es' : List Int) (f' : Nat), LR PA ts ts' → f ≤ f' →
   ∃ x' f'', LR PA x x' ∧ modM r'.L (itemT r') f' (o + k) ts' es' = modM r'.L (itemT r') f'' (o + n) x' es' ∧ f' ≤ f'' + (n - k)
 | 0, k, ts, x, hkn, h, ts', es', f', hts, hf => by cases h
 | f + 1, k, ts, x, hkn, h, ts', es', f', hts, hf => by
  unfold modM at h
  by_cases h0 : (r.L.getD k tok0).kind = 0
  ·rw [if_pos h0] at h
   simp only [Option.some.injEq, Prod.mk.injEq] at h
   obtain ⟨rfl, -⟩ := h
   have hkn' : k = n := by
    by_cases hlt : k < n
    ·exact absurd h0 (hk k hlt)
    ·omega
   subst hkn'
   exact ⟨ts', f', hts, rfl, by omega⟩
  ·rw [if_neg h0] at h
   have hlt : k < n := by
    by_cases hlt : k < n
    ·exact hlt
    ·exfalso
     have e : k = n := by omega
     subst e
     obtain ⟨D, e, hD, _⟩ := hT.ends
     apply h0
     have hl : D.length = k := by have := congrArg List.length hD; simp at this; omega
     rw [hD, List.getD_eq_getElem?_getD, List.getElem?_append_right (by omega), hl]
     simp
   cases hp : itemT r k with
   | error j =>
    rw [hp] at h
    obtain ⟨d, hd⟩ := modM_errs f _ _ _ _ _ h
    simp at hd
   | ok z =>
    obtain ⟨t, j⟩ := z
    rw [hp] at h
    obtain ⟨hj1, hj2⟩ := (fine_itemT hT.endAt hT.intAt k (by omega)).1 t j hp
    obtain ⟨b1, b2⟩ := locE_itemT S k t j hp
    obtain ⟨t', e', ht'⟩ := b2 (by omega)
    obtain ⟨g, rfl⟩ : ∃ g, f' = g + 1 := ⟨f' - 1, by omega⟩
    obtain ⟨x', f'', hx, heq, hfu⟩ := mod_part S hT hn hk f j (ts ++ [t]) x (by omega) h (ts' ++ [t']) es' g (hts.append (.one ht')) (by omega)
    refine ⟨x', f'', hx, ?_, by omega⟩
    rw [← heq]
    show (if (r'.L.getD (o + k) tok0).kind = 0 then some (ts', es') else match itemT r' (o + k) with
     | .ok (t, j) => modM r'.L (itemT r') g j (ts' ++ [t]) es'
     | .error j => modM r'.L (itemT r') g (resP r'.L (o + k) (r'.L.length + 1) j) ts' (es' ++ [(r'.L.getD j tok0).at_])) = _
    rw [if_neg (by rw [S.kind k hlt]; exact h0), e']
end Go.Proofs.YtheigpiffdabnaaGreat
namespace Go.Proofs.YtheigpiffdabnaaGreat
open Go Go.RowKit
/-- a token by its kind and text -/
structure Tk (r : Rdr) (k : Nat) (kd : Int) (tx : ByteArray) : Prop where
 kind : (r.L.getD k tok0).kind = kd
 text : (r.L.getD k tok0).text = tx
/-- the end, or a word that begins an item -/
structure Nxt (r : Rdr) (k : Nat) : Prop where
 name : (r.L.getD k tok0).kind ≠ 1
 shut : isMark r k ⟨#[41]⟩ = false
 go : (r.L.getD k tok0).kind = 0 ∨ begins (r.L.getD k tok0).text = true
theorem resP_skip {L : List Lx.Tok} {first : Nat} : ∀ (m f k : Nat), (∀ i, i < m → (L.getD (k + i) tok0).kind ≠ 0 ∧ (k + i = first ∨ begins (L.getD (k + i) tok0).text = false)) → ((L.getD (k + m) tok0).kind = 0 ∨ begins (L.getD (k + m) tok0).text = true) → first < k + m → m < f → resP L first f k = k + m
 | 0, f, k, h, hx, hf, hm => by
  obtain ⟨f, rfl⟩ : ∃ g, f = g + 1 := ⟨f - 1, by omega⟩
  show (if (L.getD k tok0).kind = 0 then k else if k = first ∨ begins (L.getD k tok0).text = false then resP L first f (k + 1) else k) = k
  by_cases h0 : (L.getD k tok0).kind = 0
  ·rw [if_pos h0]
  ·rw [if_neg h0, if_neg]
   rcases hx with hx | hx
   ·exact absurd hx h0
   ·rintro (e | e)
    ·omega
    ·rw [show k + 0 = k from rfl] at hx; rw [hx] at e; cases e
 | m + 1, f, k, h, hx, hf, hm => by
  obtain ⟨f, rfl⟩ : ∃ g, f = g + 1 := ⟨f - 1, by omega⟩
  have h1 : (L.getD k tok0).kind ≠ 0 ∧ (k = first ∨ begins (L.getD k tok0).text = false) := h 0 (by omega)
  show (if (L.getD k tok0).kind = 0 then k else if k = first ∨ begins (L.getD k tok0).text = false then resP L first f (k + 1) else k) = k + (m + 1)
  rw [if_neg h1.1, if_pos h1.2, resP_skip m f (k + 1) (fun i hi => by have := h (i + 1) (by omega); rw [show k + 1 + i = k + (i + 1) by omega]; exact this) (by rw [show k + 1 + m = k + (m + 1) by omega]; exact hx) (by omega) (by omega)]
  omega
theorem Tk.mark {r : Rdr} {k : Nat} {kd : Int} {tx sg : ByteArray} (h : Tk r k kd tx) : isMark r k sg = isB tx sg := by
 show isB (r.L.getD k tok0).text sg = _
 rw [h.text]
theorem Tk.yes {r : Rdr} {k : Nat} {kd : Int} {tx : ByteArray} (h : Tk r k kd tx) : isMark r k tx = true := by rw [h.mark]; unfold isB; exact beq_self_eq_true _
theorem Tk.no {r : Rdr} {k : Nat} {kd : Int} {tx sg : ByteArray} (h : Tk r k kd tx) (hb : isB tx sg = false) : ¬ isMark r k sg = true := by rw [h.mark, hb]; decide
/-- the word ahead tells which item it is -/
theorem item_at (r : Rdr) (i : Nat) : itemT r i = itemM r (typL r false 60) (typL r true 60) (subL r 60).E (subL r 60).B i := rfl
theorem item_fn {r : Rdr} {i : Nat} {kd : Int} (h : Tk r i kd ⟨#[102, 110]⟩) : itemT r i = functionM r (paramsP r) (typL r false 60) (subL r 60).B i := by
 refine (item_at r i).trans (itemM_eq.trans ?_)
 rw [h.text]
 rw [if_neg (by rw [show isB ⟨#[102, 110]⟩ ⟨#[117, 115, 101]⟩ = false by kernel_rfl]; decide)]
 rw [if_neg (by rw [show isB ⟨#[102, 110]⟩ ⟨#[112, 117, 98]⟩ = false by kernel_rfl]; decide)]
 rw [if_neg (by rw [show isB ⟨#[102, 110]⟩ ⟨#[99, 111, 110, 115, 116]⟩ = false by kernel_rfl]; decide)]
 rw [if_pos (show isB ⟨#[102, 110]⟩ ⟨#[102, 110]⟩ = true by kernel_rfl)]
theorem item_const {r : Rdr} {i : Nat} {kd : Int} (h : Tk r i kd ⟨#[99, 111, 110, 115, 116]⟩) : itemT r i = constantM r (typL r false 60) (subL r 60).E i := by
 refine (item_at r i).trans (itemM_eq.trans ?_)
 rw [h.text]
 rw [if_neg (by rw [show isB ⟨#[99, 111, 110, 115, 116]⟩ ⟨#[117, 115, 101]⟩ = false by kernel_rfl]; decide)]
 rw [if_neg (by rw [show isB ⟨#[99, 111, 110, 115, 116]⟩ ⟨#[112, 117, 98]⟩ = false by kernel_rfl]; decide)]
 rw [if_pos (show isB ⟨#[99, 111, 110, 115, 116]⟩ ⟨#[99, 111, 110, 115, 116]⟩ = true by kernel_rfl)]
theorem item_type {r : Rdr} {i : Nat} {kd : Int} (h : Tk r i kd ⟨#[116, 121, 112, 101]⟩) : itemT r i = recordM r (typL r false 60) i := by
 refine (item_at r i).trans (itemM_eq.trans ?_)
 rw [h.text]
 rw [if_neg (by rw [show isB ⟨#[116, 121, 112, 101]⟩ ⟨#[117, 115, 101]⟩ = false by kernel_rfl]; decide)]
 rw [if_neg (by rw [show isB ⟨#[116, 121, 112, 101]⟩ ⟨#[112, 117, 98]⟩ = false by kernel_rfl]; decide)]
 rw [if_neg (by rw [show isB ⟨#[116, 121, 112, 101]⟩ ⟨#[99, 111, 110, 115, 116]⟩ = false by kernel_rfl]; decide)]
 rw [if_neg (by rw [show isB ⟨#[116, 121, 112, 101]⟩ ⟨#[102, 110]⟩ = false by kernel_rfl]; decide)]
 rw [if_pos (show isB ⟨#[116, 121, 112, 101]⟩ ⟨#[116, 121, 112, 101]⟩ = true by kernel_rfl)]
theorem item_impl {r : Rdr} {i : Nat} {kd : Int} (h : Tk r i kd ⟨#[105, 109, 112, 108]⟩) : itemT r i = implM r (typL r false 60) (subL r 60).B i := by
 refine (item_at r i).trans (itemM_eq.trans ?_)
 rw [h.text]
 rw [if_neg (by rw [show isB ⟨#[105, 109, 112, 108]⟩ ⟨#[117, 115, 101]⟩ = false by kernel_rfl]; decide)]
 rw [if_neg (by rw [show isB ⟨#[105, 109, 112, 108]⟩ ⟨#[112, 117, 98]⟩ = false by kernel_rfl]; decide)]
 rw [if_neg (by rw [show isB ⟨#[105, 109, 112, 108]⟩ ⟨#[99, 111, 110, 115, 116]⟩ = false by kernel_rfl]; decide)]
 rw [if_neg (by rw [show isB ⟨#[105, 109, 112, 108]⟩ ⟨#[102, 110]⟩ = false by kernel_rfl]; decide)]
 rw [if_neg (by rw [show isB ⟨#[105, 109, 112, 108]⟩ ⟨#[116, 121, 112, 101]⟩ = false by kernel_rfl]; decide)]
 rw [if_neg (by rw [show isB ⟨#[105, 109, 112, 108]⟩ ⟨#[116, 114, 97, 105, 116]⟩ = false by kernel_rfl]; decide)]
 rw [if_pos (show isB ⟨#[105, 109, 112, 108]⟩ ⟨#[105, 109, 112, 108]⟩ = true by kernel_rfl)]
theorem item_bad {r : Rdr} {i : Nat} {kd : Int} (h : Tk r i kd ⟨#[63]⟩) : itemT r i = .error i := by
 refine (item_at r i).trans (itemM_eq.trans ?_)
 rw [h.text]
 rw [if_neg (by rw [show isB ⟨#[63]⟩ ⟨#[117, 115, 101]⟩ = false by kernel_rfl]; decide)]
 rw [if_neg (by rw [show isB ⟨#[63]⟩ ⟨#[112, 117, 98]⟩ = false by kernel_rfl]; decide)]
 rw [if_neg (by rw [show isB ⟨#[63]⟩ ⟨#[99, 111, 110, 115, 116]⟩ = false by kernel_rfl]; decide)]
 rw [if_neg (by rw [show isB ⟨#[63]⟩ ⟨#[102, 110]⟩ = false by kernel_rfl]; decide)]
 rw [if_neg (by rw [show isB ⟨#[63]⟩ ⟨#[116, 121, 112, 101]⟩ = false by kernel_rfl]; decide)]
 rw [if_neg (by rw [show isB ⟨#[63]⟩ ⟨#[116, 114, 97, 105, 116]⟩ = false by kernel_rfl]; decide)]
 rw [if_neg (by rw [show isB ⟨#[63]⟩ ⟨#[105, 109, 112, 108]⟩ = false by kernel_rfl]; decide)]
 rw [if_neg (by rw [show isB ⟨#[63]⟩ ⟨#[109, 97, 99, 114, 111]⟩ = false by kernel_rfl]; decide)]
 rfl
theorem item_let {r : Rdr} {i : Nat} {kd : Int} (h : Tk r i kd ⟨#[108, 101, 116]⟩) : itemT r i = .error i := by
 refine (item_at r i).trans (itemM_eq.trans ?_)
 rw [h.text]
 rw [if_neg (by rw [show isB ⟨#[108, 101, 116]⟩ ⟨#[117, 115, 101]⟩ = false by kernel_rfl]; decide)]
 rw [if_neg (by rw [show isB ⟨#[108, 101, 116]⟩ ⟨#[112, 117, 98]⟩ = false by kernel_rfl]; decide)]
 rw [if_neg (by rw [show isB ⟨#[108, 101, 116]⟩ ⟨#[99, 111, 110, 115, 116]⟩ = false by kernel_rfl]; decide)]
 rw [if_neg (by rw [show isB ⟨#[108, 101, 116]⟩ ⟨#[102, 110]⟩ = false by kernel_rfl]; decide)]
 rw [if_neg (by rw [show isB ⟨#[108, 101, 116]⟩ ⟨#[116, 121, 112, 101]⟩ = false by kernel_rfl]; decide)]
 rw [if_neg (by rw [show isB ⟨#[108, 101, 116]⟩ ⟨#[116, 114, 97, 105, 116]⟩ = false by kernel_rfl]; decide)]
 rw [if_neg (by rw [show isB ⟨#[108, 101, 116]⟩ ⟨#[105, 109, 112, 108]⟩ = false by kernel_rfl]; decide)]
 rw [if_neg (by rw [show isB ⟨#[108, 101, 116]⟩ ⟨#[109, 97, 99, 114, 111]⟩ = false by kernel_rfl]; decide)]
 rfl
theorem wrong_1 {r : Rdr} {s : Nat} (t0 : Tk r s 2 ⟨#[102, 110]⟩) (t1 : Tk r (s + 1) 1 ⟨#[102]⟩) (t2 : Tk r (s + 2) 4 ⟨#[40]⟩) (hx : Nxt r (s + 3)) (hl : s + 3 < r.L.length) : ∃ j, itemT r s = .error j ∧ resP r.L s (r.L.length + 1) j = s + 3 := by
 refine ⟨s + 3, ?_, ?_⟩
 ·rw [item_fn t0]
  unfold functionM
  rw [at_here, at_ok (nd_yes t0.yes), at_ok (nm_yes t1.kind)]
  have hp : paramsP r (s + 1 + 1) = .ok (.mk 10 ⟨#[]⟩ (r.L.getD (s + 1 + 1) tok0).at_ [], s + 1 + 1) := by
   rw [paramsP_eq, at_here, at_ok (tk_no (t2.no (by kernel_rfl)))]; rfl
  rw [at_ok hp]
  have ha : argsC r (typL r false 60) (s + 1 + 1) = .error (s + 3) := by
   unfold argsC
   rw [argsP_eq, at_ok (nd_yes t2.yes), at_here]
   have hu : upToP r ⟨#[41]⟩ (argP r (typL r false 60)) (s + 1 + 1 + 1) = .error (s + 3) := by
    unfold upToP
    rw [if_neg (by show ¬ isMark r (s + 3) ⟨#[41]⟩ = true; rw [hx.shut]; decide)]
    have hg : argP r (typL r false 60) (s + 1 + 1 + 1) = .error (s + 3) := if_neg hx.name
    rw [listP_err hg]
   rw [at_err hu]
  rw [at_err ha]
 ·have h := resP_skip (L := r.L) (first := s) 0 (r.L.length + 1) (s + 3) (fun i hi => ?_) hx.go (by omega) (by omega)
  ·rw [h]
  ·match i, hi with
   | i + 0, hi => exact absurd hi (by omega)
theorem wrong_2 {r : Rdr} {s : Nat} (t0 : Tk r s 5 ⟨#[63]⟩) (hx : Nxt r (s + 1)) (hl : s + 1 < r.L.length) : ∃ j, itemT r s = .error j ∧ resP r.L s (r.L.length + 1) j = s + 1 := by
 refine ⟨s + 0, ?_, ?_⟩
 ·exact item_bad t0
 ·have h := resP_skip (L := r.L) (first := s) 1 (r.L.length + 1) (s + 0) (fun i hi => ?_) hx.go (by omega) (by omega)
  ·rw [h]
  ·match i, hi with
   | 0, _ => exact ⟨by show (r.L.getD (s + 0) tok0).kind ≠ 0; rw [(show Tk r (s + 0) _ _ from t0).kind]; decide, .inl rfl⟩
   | i + 1, hi => exact absurd hi (by omega)
theorem wrong_3 {r : Rdr} {s : Nat} (t0 : Tk r s 2 ⟨#[99, 111, 110, 115, 116]⟩) (t1 : Tk r (s + 1) 1 ⟨#[99]⟩) (t2 : Tk r (s + 2) 2 ⟨#[105, 110, 116]⟩) (t3 : Tk r (s + 3) 4 ⟨#[61]⟩) (t4 : Tk r (s + 4) 3 ⟨#[49]⟩) (t5 : Tk r (s + 5) 4 ⟨#[59]⟩) (hx : Nxt r (s + 6)) (hl : s + 6 < r.L.length) : ∃ j, itemT r s = .error j ∧ resP r.L s (r.L.length + 1) j = s + 6 := by
 refine ⟨s + 2, ?_, ?_⟩
 ·rw [item_const t0]
  unfold constantM
  rw [at_here, at_ok (nd_yes t0.yes), at_ok (nm_yes t1.kind), at_err (nd_no (t2.no (by kernel_rfl)))]
 ·have h := resP_skip (L := r.L) (first := s) 4 (r.L.length + 1) (s + 2) (fun i hi => ?_) hx.go (by omega) (by omega)
  ·rw [h]
  ·match i, hi with
   | 0, _ => exact ⟨by show (r.L.getD (s + 2) tok0).kind ≠ 0; rw [t2.kind]; decide, .inr (by show begins (r.L.getD (s + 2) tok0).text = false; rw [t2.text]; kernel_rfl)⟩
   | 1, _ => exact ⟨by show (r.L.getD (s + 3) tok0).kind ≠ 0; rw [t3.kind]; decide, .inr (by show begins (r.L.getD (s + 3) tok0).text = false; rw [t3.text]; kernel_rfl)⟩
   | 2, _ => exact ⟨by show (r.L.getD (s + 4) tok0).kind ≠ 0; rw [t4.kind]; decide, .inr (by show begins (r.L.getD (s + 4) tok0).text = false; rw [t4.text]; kernel_rfl)⟩
   | 3, _ => exact ⟨by show (r.L.getD (s + 5) tok0).kind ≠ 0; rw [t5.kind]; decide, .inr (by show begins (r.L.getD (s + 5) tok0).text = false; rw [t5.text]; kernel_rfl)⟩
   | i + 4, hi => exact absurd hi (by omega)
theorem wrong_4 {r : Rdr} {s : Nat} (t0 : Tk r s 2 ⟨#[116, 121, 112, 101]⟩) (t1 : Tk r (s + 1) 1 ⟨#[84]⟩) (t2 : Tk r (s + 2) 4 ⟨#[123]⟩) (t3 : Tk r (s + 3) 1 ⟨#[120]⟩) (t4 : Tk r (s + 4) 4 ⟨#[125]⟩) (hx : Nxt r (s + 5)) (hl : s + 5 < r.L.length) : ∃ j, itemT r s = .error j ∧ resP r.L s (r.L.length + 1) j = s + 5 := by
 refine ⟨s + 4, ?_, ?_⟩
 ·rw [item_type t0]
  unfold recordM
  rw [at_here, at_ok (nd_yes t0.yes), at_ok (nm_yes t1.kind)]
  have hp : paramsP r (s + 1 + 1) = .ok (.mk 10 ⟨#[]⟩ (r.L.getD (s + 1 + 1) tok0).at_ [], s + 1 + 1) := by
   rw [paramsP_eq, at_here, at_ok (tk_no (t2.no (by kernel_rfl)))]; rfl
  rw [at_ok hp]
  have ha : argsP r ⟨#[123]⟩ ⟨#[125]⟩ (argP r (typL r false 60)) (s + 1 + 1) = .error (s + 4) := by
   rw [argsP_eq, at_ok (nd_yes t2.yes), at_here]
   have hu : upToP r ⟨#[125]⟩ (argP r (typL r false 60)) (s + 1 + 1 + 1) = .error (s + 4) := by
    unfold upToP
    rw [if_neg (t3.no (by kernel_rfl))]
    have hg : argP r (typL r false 60) (s + 1 + 1 + 1) = .error (s + 4) := by
     rw [argP_eq, at_here, at_ok (nm_yes t3.kind), at_err (nd_no (t4.no (by kernel_rfl)))]
    rw [listP_err hg]
   rw [at_err hu]
  rw [at_err ha]
 ·have h := resP_skip (L := r.L) (first := s) 1 (r.L.length + 1) (s + 4) (fun i hi => ?_) hx.go (by omega) (by omega)
  ·rw [h]
  ·match i, hi with
   | 0, _ => exact ⟨by show (r.L.getD (s + 4) tok0).kind ≠ 0; rw [t4.kind]; decide, .inr (by show begins (r.L.getD (s + 4) tok0).text = false; rw [t4.text]; kernel_rfl)⟩
   | i + 1, hi => exact absurd hi (by omega)
theorem wrong_5 {r : Rdr} {s : Nat} (t0 : Tk r s 2 ⟨#[108, 101, 116]⟩) (t1 : Tk r (s + 1) 1 ⟨#[120]⟩) (t2 : Tk r (s + 2) 4 ⟨#[61]⟩) (t3 : Tk r (s + 3) 3 ⟨#[49]⟩) (t4 : Tk r (s + 4) 4 ⟨#[59]⟩) (hx : Nxt r (s + 5)) (hl : s + 5 < r.L.length) : ∃ j, itemT r s = .error j ∧ resP r.L s (r.L.length + 1) j = s + 5 := by
 refine ⟨s + 0, ?_, ?_⟩
 ·exact item_let t0
 ·have h := resP_skip (L := r.L) (first := s) 5 (r.L.length + 1) (s + 0) (fun i hi => ?_) hx.go (by omega) (by omega)
  ·rw [h]
  ·match i, hi with
   | 0, _ => exact ⟨by show (r.L.getD (s + 0) tok0).kind ≠ 0; rw [(show Tk r (s + 0) _ _ from t0).kind]; decide, .inl rfl⟩
   | 1, _ => exact ⟨by show (r.L.getD (s + 1) tok0).kind ≠ 0; rw [t1.kind]; decide, .inr (by show begins (r.L.getD (s + 1) tok0).text = false; rw [t1.text]; kernel_rfl)⟩
   | 2, _ => exact ⟨by show (r.L.getD (s + 2) tok0).kind ≠ 0; rw [t2.kind]; decide, .inr (by show begins (r.L.getD (s + 2) tok0).text = false; rw [t2.text]; kernel_rfl)⟩
   | 3, _ => exact ⟨by show (r.L.getD (s + 3) tok0).kind ≠ 0; rw [t3.kind]; decide, .inr (by show begins (r.L.getD (s + 3) tok0).text = false; rw [t3.text]; kernel_rfl)⟩
   | 4, _ => exact ⟨by show (r.L.getD (s + 4) tok0).kind ≠ 0; rw [t4.kind]; decide, .inr (by show begins (r.L.getD (s + 4) tok0).text = false; rw [t4.text]; kernel_rfl)⟩
   | i + 5, hi => exact absurd hi (by omega)
theorem wrong_6 {r : Rdr} {s : Nat} (t0 : Tk r s 2 ⟨#[105, 109, 112, 108]⟩) (t1 : Tk r (s + 1) 1 ⟨#[65]⟩) (t2 : Tk r (s + 2) 1 ⟨#[66]⟩) (t3 : Tk r (s + 3) 4 ⟨#[123]⟩) (hx : Nxt r (s + 4)) (hl : s + 4 < r.L.length) : ∃ j, itemT r s = .error j ∧ resP r.L s (r.L.length + 1) j = s + 4 := by
 refine ⟨s + 2, ?_, ?_⟩
 ·rw [item_impl t0]
  unfold implM
  rw [at_here, at_ok (nd_yes t0.yes)]
  have hp : paramsP r (s + 1) = .ok (.mk 10 ⟨#[]⟩ (r.L.getD (s + 1) tok0).at_ [], s + 1) := by
   rw [paramsP_eq, at_here, at_ok (tk_no (t1.no (by kernel_rfl)))]; rfl
  rw [at_ok hp, at_ok (nm_yes t1.kind), at_err (nd_no (t2.no (by kernel_rfl)))]
 ·have h := resP_skip (L := r.L) (first := s) 2 (r.L.length + 1) (s + 2) (fun i hi => ?_) hx.go (by omega) (by omega)
  ·rw [h]
  ·match i, hi with
   | 0, _ => exact ⟨by show (r.L.getD (s + 2) tok0).kind ≠ 0; rw [t2.kind]; decide, .inr (by show begins (r.L.getD (s + 2) tok0).text = false; rw [t2.text]; kernel_rfl)⟩
   | 1, _ => exact ⟨by show (r.L.getD (s + 3) tok0).kind ≠ 0; rw [t3.kind]; decide, .inr (by show begins (r.L.getD (s + 3) tok0).text = false; rw [t3.text]; kernel_rfl)⟩
   | i + 2, hi => exact absurd hi (by omega)
end Go.Proofs.YtheigpiffdabnaaGreat
namespace Go.Proofs.YtheigpiffdabnaaGreat
namespace Lx
open Go
theorem tw_app {α : Type} (p : α → Bool) (x : α) (r : List α) (hx : p x = false) : ∀ l : List α, (l ++ x :: r).takeWhile p = l.takeWhile p
 | [] => by simp [hx]
 | c :: l => by
  simp only [List.cons_append, List.takeWhile_cons]
  cases p c
  ·rfl
  ·simp only [if_true, tw_app p x r hx l]
theorem runLen_app (l r : Bs) : runLen (l ++ 10 :: r) = runLen l := by unfold runLen; rw [tw_app runB 10 r (by decide)]
theorem lineLen_app (l r : Bs) : lineLen (l ++ 10 :: r) = lineLen l := by unfold lineLen; rw [tw_app notLf 10 r (by decide)]
theorem two_app (c : UInt8) (l r : Bs) : twoM ((c :: l ++ 10 :: r).take 2) = twoM ((c :: l).take 2) := by
 cases l with
 | nil =>
  have h1 : twoM [c, 10] = false := by simp [twoM]
  have h2 : twoM [c] = false := by simp [twoM]
  show twoM [c, 10] = twoM [c]
  rw [h1, h2]
 | cons d l => rfl
theorem markLen_app (c : UInt8) (l r : Bs) : markLen (c :: l ++ 10 :: r) = markLen (c :: l) := by
 show (if twoM ((c :: l ++ 10 :: r).take 2) then 2 else if markI (c.toNat : Int) then 1 else 0) = (if twoM ((c :: l).take 2) then 2 else if markI (c.toNat : Int) then 1 else 0)
 rw [two_app]
theorem tokLen_app (c : UInt8) (l r : Bs) : tokLen (c :: l ++ 10 :: r) = tokLen (c :: l) := by
 unfold tokLen
 rw [runLen_app (c :: l) r, markLen_app]
theorem take_app {l r : Bs} {n : Nat} (h : n ≤ l.length) : (l ++ r).take n = l.take n := by rw [List.take_append_of_le_length h]
theorem drop_app {l r : Bs} {n : Nat} (h : n ≤ l.length) : (l ++ r).drop n = l.drop n ++ r := by rw [List.drop_append_of_le_length h]
theorem tokKind_app (c : UInt8) (l r : Bs) : tokKind (c :: l ++ 10 :: r) = tokKind (c :: l) := by
 unfold tokKind
 rw [runLen_app (c :: l) r, markLen_app, take_app (runLen_le (c :: l))]
theorem tokOf_app (c : UInt8) (l r : Bs) (a : Nat) : tokOf (c :: l ++ 10 :: r) a = tokOf (c :: l) a := by
 unfold tokOf
 rw [tokKind_app, tokLen_app, take_app (tokLen_le c l)]
theorem comment_app (c : UInt8) (l r : Bs) : comment (c :: l ++ 10 :: r) = comment (c :: l) := by
 cases l with
 | nil =>
  show decide ((c.toNat : Int) = 47 ∧ ((10 : UInt8).toNat : Int) = 47) = false
  simp
 | cons d l => rfl
/-- tokens of a text, a line's end, and the tokens of another text -/
theorem Scan.nl {l : Bs} {a : Nat} {T : List Tok} (h : Scan l a T) : ∀ (r : Bs) (U : List Tok), Scan r (a + l.length + 1) U → ∃ T0 e, T = T0 ++ [e] ∧ e.kind = 0 ∧ Scan (l ++ 10 :: r) a (T0 ++ U) := by
 induction h with
 | fin a => exact fun r U hU => ⟨[], _, rfl, rfl, .blank 10 r a U (by decide) hU⟩
 | blank c l a T hb h ih =>
  intro r U hU
  obtain ⟨T0, e, h1, h2, h3⟩ := ih r U (by rw [show a + 1 + l.length + 1 = a + (c :: l).length + 1 by simp; omega]; exact hU)
  exact ⟨T0, e, h1, h2, .blank c _ a _ hb h3⟩
 | comm c l a T hb hc h ih =>
  intro r U hU
  have hle := lineLen_le (c :: l)
  obtain ⟨T0, e, h1, h2, h3⟩ := ih r U (by rw [List.length_drop, show a + lineLen (c :: l) + ((c :: l).length - lineLen (c :: l)) + 1 = a + (c :: l).length + 1 by omega]; exact hU)
  refine ⟨T0, e, h1, h2, .comm c (l ++ 10 :: r) a _ hb (by rw [← List.cons_append, comment_app]; exact hc) ?_⟩
  rw [← List.cons_append, lineLen_app, drop_app hle]
  exact h3
 | tok c l a T hb hc h ih =>
  intro r U hU
  have hle := tokLen_le c l
  obtain ⟨T0, e, h1, h2, h3⟩ := ih r U (by rw [List.length_drop, show a + tokLen (c :: l) + ((c :: l).length - tokLen (c :: l)) + 1 = a + (c :: l).length + 1 by omega]; exact hU)
  refine ⟨tokOf (c :: l) a :: T0, e, by rw [h1]; rfl, h2, ?_⟩
  have key := Scan.tok c (l ++ 10 :: r) a (T0 ++ U) hb (by rw [← List.cons_append, comment_app]; exact hc) (by rw [← List.cons_append, tokLen_app, drop_app hle]; exact h3)
  rw [← List.cons_append, tokOf_app] at key
  exact key
/-- a text from another place on: the same kinds and texts -/
theorem Scan.move {l : Bs} {a : Nat} {T : List Tok} (h : Scan l a T) : ∀ b : Nat, ∃ U, Scan l b U ∧ U.map (fun t => (t.kind, t.text)) = T.map (fun t => (t.kind, t.text)) := by
 induction h with
 | fin a => exact fun b => ⟨_, .fin b, rfl⟩
 | blank c l a T hb h ih => exact fun b => by obtain ⟨U, h1, h2⟩ := ih (b + 1); exact ⟨U, .blank c l b U hb h1, h2⟩
 | comm c l a T hb hc h ih => exact fun b => by obtain ⟨U, h1, h2⟩ := ih (b + lineLen (c :: l)); exact ⟨U, .comm c l b U hb hc h1, h2⟩
 | tok c l a T hb hc h ih =>
  intro b
  obtain ⟨U, h1, h2⟩ := ih (b + tokLen (c :: l))
  exact ⟨_, .tok c l b U hb hc h1, by simp only [List.map_cons, h2]; rfl⟩
end Lx
end Go.Proofs.YtheigpiffdabnaaGreat
