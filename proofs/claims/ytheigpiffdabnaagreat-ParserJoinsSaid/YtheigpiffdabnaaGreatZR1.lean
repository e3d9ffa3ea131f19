/-
  CONTRACTS: the reader of the reference: whether nothing was wrong so far, the next token, its place, a fault.
-/
import Derived.Test.YtheigpiffdabnaaGreatZA13
import Derived.Deep.QuietTactic
import Derived.BigQuiet
import Derived.Test.YtheigpiffdabnaaGreatZA6
import Derived.Test.YtheigpiffdabnaaGreatZA7
set_option linter.unusedSimpArgs false
set_option linter.unusedVariables false
namespace Go.Proofs.YtheigpiffdabnaaGreat
open Go Go.RowKit
attribute [local go_sem] field_tok0 field_tok1 field_tok2
/-- the reference's reader lies there: the token a comes next, and bad is the first one that is not permitted, or -1 -/
structure RrIn (r : Rdr) (a : Nat) (bad : Int) (s : Bool) (w : World) : Prop where
 cells : w.heap[r.b]? = some (.cells #[.slice r.p r.L.length r.cap, .int .i64 (a : Int), .int .i64 bad, .bool s] 69 (0, 0))
 toks : SlIs tokEnc w (.slice r.p r.L.length r.cap) r.L
 away : ∀ b o, r.p = some ⟨b, o, none⟩ → b < r.b
 lt : a < r.L.length
 few : r.L.length ≤ 20001
 low : -1 ≤ bad ∧ bad < 20001
theorem RrIn.below {r : Rdr} {a : Nat} {bad : Int} {s : Bool} {w w' : World} (h : RrIn r a bad s w) (hb : Below w.heap.size w w') : RrIn r a bad s w' :=
 ⟨by rw [hb.block r.b (lt_heap h.cells)]; exact h.cells, h.toks.below hb, h.away, h.lt, h.few, h.low⟩
theorem RrIn.c {r : Rdr} {a : Nat} {bad : Int} {s : Bool} {w : World} (h : RrIn r a bad s w) :
  w.cell? ⟨r.b, 0, none⟩ = some (.slice r.p r.L.length r.cap) ∧ w.cell? ⟨r.b, 1, none⟩ = some (.int .i64 (a : Int)) ∧ w.cell? ⟨r.b, 2, none⟩ = some (.int .i64 bad) ∧ w.cell? ⟨r.b, 3, none⟩ = some (.bool s) ∧ ∀ k, w.frozen? ⟨r.b, k, none⟩ = false :=
 ⟨by rw [Lib.cell_of_heap h.cells]; rfl, by rw [Lib.cell_of_heap h.cells]; rfl, by rw [Lib.cell_of_heap h.cells]; rfl, by rw [Lib.cell_of_heap h.cells]; rfl, fun k => Lib.frozen_of_heap h.cells k⟩
theorem RrIn.tok {r : Rdr} {a : Nat} {bad : Int} {s : Bool} {w : World} (h : RrIn r a bad s w) (k : Nat) (hk : k < r.L.length) : ∃ b off, r.p = some ⟨b, off, none⟩ ∧
  w.cell? ⟨b, off + k * 3, none⟩ = some (.int .i64 (r.L.getD k tok0).kind) ∧ w.cell? ⟨b, off + k * 3 + 1, none⟩ = some (.string (r.L.getD k tok0).text) ∧ w.cell? ⟨b, off + k * 3 + 2, none⟩ = some (.int .i64 (r.L.getD k tok0).at_) := by
 obtain ⟨_, _, _, hl⟩ := h.toks.lies
 obtain ⟨b, off, e, hc⟩ := hl (by omega)
 exact ⟨b, off, e, tok_cells hc k hk⟩
/-- another place, another fault -/
theorem RrIn.set {r : Rdr} {a a' : Nat} {bad bad' : Int} {s s' : Bool} {w w' : World} (h : RrIn r a bad s w) (hm : Mv r w w') (hc : w'.heap[r.b]? = some (.cells #[.slice r.p r.L.length r.cap, .int .i64 (a' : Int), .int .i64 bad', .bool s'] 69 (0, 0))) (ha : a' < r.L.length) (hb : -1 ≤ bad' ∧ bad' < 20001) : RrIn r a' bad' s' w' :=
 ⟨hc, SlIs.but h.toks hm (fun b o i e q => by have h1 := h.away b o e; have h2 : b = r.b := q; omega), h.away, ha, h.few, hb⟩
/-- the states of a reading: at a token, or with the first fault -/
def RrAt (r : Rdr) (σ : Except Nat Nat) (s : Bool) (w : World) : Prop :=
 match σ with
 | .ok i => RrIn r i (-1) s w
 | .error k => k < r.L.length ∧ ∃ a, RrIn r a (k : Int) s w
theorem RrAt.in_ {r : Rdr} {σ : Except Nat Nat} {s : Bool} {w : World} (h : RrAt r σ s w) : ∃ a bad, RrIn r a bad s w ∧ (decide (bad < 0) = match σ with | .ok _ => true | .error _ => false) ∧ ∀ i, σ = .ok i → a = i := by
 cases σ with
 | ok i => exact ⟨i, -1, h, rfl, fun j e => by cases e; rfl⟩
 | error k =>
  obtain ⟨_, a, h⟩ := h
  exact ⟨a, k, h, by simp, fun j e => by cases e⟩
theorem RrAt.below {r : Rdr} {σ : Except Nat Nat} {s : Bool} {w w' : World} (h : RrAt r σ s w) (hb : Below w.heap.size w w') : RrAt r σ s w' := by
 cases σ with
 | ok i => exact RrIn.below h hb
 | error k => obtain ⟨h1, a, h⟩ := h; exact ⟨h1, a, h.below hb⟩
end Go.Proofs.YtheigpiffdabnaaGreat
namespace Go.Proofs.YtheigpiffdabnaaGreat
open Go Go.RowKit
end Go.Proofs.YtheigpiffdabnaaGreat
namespace Go.Proofs.YtheigpiffdabnaaGreat
open Go Go.RowKit
/-- where a plain reader leaves a reading -/
def after {α : Type} (p : PM α) (σ : Except Nat Nat) : Except Nat Nat := match σ with
 | .error k => .error k
 | .ok i => match p i with
  | .ok (_, j) => .ok j
  | .error k => .error k
theorem after_ok {α : Type} {p : PM α} {i j : Nat} {x : α} (h : p i = .ok (x, j)) : after p (.ok i) = .ok j := by simp only [after, h]
theorem after_err {α : Type} {p : PM α} {i k : Nat} (h : p i = .error k) : after p (.ok i) = .error k := by simp only [after, h]
theorem after_bind {α β : Type} {p : PM α} {f : α → PM β} {i j : Nat} {x : α} (h : p i = .ok (x, j)) : after (bindM p f) (.ok i) = after (f x) (.ok j) := by
 simp only [after, bindM, h]
theorem after_stop {α β : Type} {p : PM α} {f : α → PM β} {i k : Nat} (h : p i = .error k) : after (bindM p f) (.ok i) = .error k := by
 simp only [after, bindM, h]
theorem RrAt.in2 {r : Rdr} {σ : Except Nat Nat} {s : Bool} {w : World} (h : RrAt r σ s w) : ∃ a bad, RrIn r a bad s w := by
 obtain ⟨a, bad, h, _⟩ := h.in_
 exact ⟨a, bad, h⟩
end Go.Proofs.YtheigpiffdabnaaGreat
namespace Go.Proofs.YtheigpiffdabnaaGreat
open Go Go.RowKit
attribute [local go_sem] field_tok0 field_tok1 field_tok2
/-- what was read is what the plain reader gives, where nothing was wrong -/
def Got {α : Type} (p : PM α) (σ : Except Nat Nat) (v : α) : Prop := ∀ i x j, σ = .ok i → p i = .ok (x, j) → v = x
theorem Got.err {α : Type} (p : PM α) (k : Nat) (v : α) : Got p (.error k) v := fun i x j e => by cases e
theorem Got.of {α : Type} {p : PM α} {i j : Nat} {v : α} (h : p i = .ok (v, j)) : Got p (.ok i) v := fun i' x j' e h' => by
 cases e
 rw [h] at h'
 simp only [Except.ok.injEq, Prod.mk.injEq] at h'
 exact h'.1
theorem Got.stop {α : Type} {p : PM α} {i k : Nat} {v : α} (h : p i = .error k) : Got p (.ok i) v := fun i' x j' e h' => by
 cases e
 rw [h] at h'
 cases h'
end Go.Proofs.YtheigpiffdabnaaGreat
namespace Go.Proofs.YtheigpiffdabnaaGreat
open Go Go.RowKit
theorem bytes_ext {a b : ByteArray} (h : (a.toList == b.toList) = true) : a = b := by
 rw [beq_iff_eq, ByteArray.toList_eq, ByteArray.toList_eq] at h
 cases a
 cases b
 simpa using h
end Go.Proofs.YtheigpiffdabnaaGreat
namespace Go.Proofs.YtheigpiffdabnaaGreat
open Go Go.RowKit
end Go.Proofs.YtheigpiffdabnaaGreat
namespace Go.Proofs.YtheigpiffdabnaaGreat
open Go Go.RowKit
end Go.Proofs.YtheigpiffdabnaaGreat
namespace Go.Proofs.YtheigpiffdabnaaGreat
open Go
section
variable {P : Program} {ops : Array Oper} {md : Region.Mode} {S : Nat → World → World → Prop} {Inv : World → Prop} {Pn : Ending → World → Prop} {T : Nat → TyV}
/-- what it leaves stands behind each other operation -/
def GoodS (S : Nat → World → World → Prop) (k : Nat) (t : TyV) : Prop := ∀ j x w w', j ≠ k → S j w w' → t.φ x w → t.φ x w'
def oneOpS (P : Program) (md : Region.Mode) (ops : Array Oper) (S : Nat → World → World → Prop) (Inv : World → Prop) (Pn : Ending → World → Prop) (T : Nat → TyV) (i : Nat) (K : Facts → Act → Prop) (F : Facts) (a : Act) : Prop :=
 match ops[i]? with
 | none => K F a
 | some o => GoodS S i (T i) ∧ (∀ w, Inv w → leanO md o i F w → oneAt P ops (S i) Pn (T i) o a w) ∧ ∀ x, K (upd F i ((T i).φ x)) (a.put o.dst ((T i).f x))
/-- the walk in the order of the text -/
def wpMany (P : Program) (md : Region.Mode) (ops : Array Oper) (S : Nat → World → World → Prop) (Inv : World → Prop) (Pn : Ending → World → Prop) (Q : Facts → Act → Prop) : List TyV → Nat → List Oper → Facts → Act → Prop
 | _, _, [], F, a => Q F a
 | t :: Ts, k, o :: rest, F, a => GoodS S k t ∧ (∀ w, Inv w → leanO md o k F w → oneAt P ops (S k) Pn t o a w) ∧ ∀ x, wpMany P md ops S Inv Pn Q Ts (k + 1) rest (upd F k (t.φ x)) (a.put o.dst (t.f x))
 | [], _, _ :: _, _, _ => False
def KeepsS (S : Nat → World → World → Prop) (F : Facts) : Prop := ∀ i k w w', k ≠ i → S i w w' → F k w → F k w'
theorem KeepsS.upd {F : Facts} (h : KeepsS S F) (i : Nat) {t : TyV} (hg : GoodS S i t) (x : t.α) : KeepsS S (upd F i (t.φ x)) := by
 intro j k w w' hk hl hf
 unfold Proofs.YtheigpiffdabnaaGreat.upd at *
 split
 ·rename_i e; rw [if_pos e] at hf; exact hg j x w w' (by omega) hl hf
 ·rename_i e; rw [if_neg e] at hf; exact h j k w w' hk hl hf
theorem holds_updS {F : Facts} (h : KeepsS S F) {w w' : World} (i : Nat) (hl : S i w w') (hF : ∀ k, F k w) (t : TyV) (x : t.α) (hx : t.φ x w') : ∀ k, upd F i (t.φ x) k w' := by
 intro k
 unfold Proofs.YtheigpiffdabnaaGreat.upd
 split
 ·exact hx
 ·rename_i e; exact h i k w w' e hl (hF k)
theorem wpOp_of_oneOpS (hI : ∀ i w w', S i w w' → Inv w → Inv w') {i : Nat} {F : Facts} {a : Act} {K : Facts → Act → Prop} {K' : Act → World → Prop} {Q' : Exit → Act → World → Prop} {w : World} {D : List Deferred}
  (hP : ∀ k a w', Pn (.panicked k) w' → a.defers = D → Q' (.panic k) a w') (hD : a.defers = D)
  (hC : Inv w) (hk : KeepsS S F) (hF : ∀ k, F k w) (h : ∀ F a w', a.defers = D → Inv w' → KeepsS S F → (∀ k, F k w') → K F a → K' a w') (hh : oneOpS P md ops S Inv Pn T i K F a) : wpOp P ops Q' i K' a w := by
 unfold oneOpS at hh
 unfold wpOp
 split
 ·rename_i ho; simp only [ho] at hh; exact h _ _ _ hD hC hk hF hh
 ·rename_i o ho
  simp only [ho] at hh
  obtain ⟨hg, hh1, hh2⟩ := hh
  have h1 := hh1 w hC ⟨hF i, fun e _ _ => hF e.on⟩
  unfold oneAt at h1
  split
  ·rename_i hw
   rw [if_pos hw] at h1
   refine .inl ?_
   unfold Oper.wp
   generalize (execOp a.eval o).run P w = r at h1
   cases r with
   | ok n w' =>
    cases n <;> simp only [oneUpon] at h1 <;> simp only [Oper.upon]
    case value u =>
     obtain ⟨e1, x, rfl, e3⟩ := h1
     exact h _ _ _ ((put_defers _ _ _).trans hD) (hI i _ _ e1 hC) (hk.upd i hg x) (holds_updS hk i e1 hF _ x e3) (hh2 x)
    case skip =>
     obtain ⟨e1, x, e2, e3⟩ := h1
     rw [e2]
     exact h _ _ _ ((put_defers _ _ _).trans hD) (hI i _ _ e1 hC) (hk.upd i hg x) (holds_updS hk i e1 hF _ x e3) (hh2 x)
    case enter f args =>
     refine h1.mono ?_
     rintro e w'' (⟨x, rfl, e2, e3⟩ | ⟨k, rfl, e3⟩)
     ·exact h _ _ _ ((put_defers _ _ _).trans hD) (hI i _ _ e2 hC) (hk.upd i hg x) (holds_updS hk i e2 hF _ x e3) (hh2 x)
     ·exact hP k a w'' e3 hD
   | halt x w' => simp only [oneUpon] at h1
  ·rename_i hw
   rw [if_neg hw] at h1
   obtain ⟨x, e2, e3⟩ := h1
   rw [e2]
   have hx := hh2 x
   refine h _ _ _ ((put_defers _ _ _).trans hD) hC (hk.upd i hg x) ?_ hx
   intro k
   unfold upd
   split
   ·exact e3
   ·exact hF k
def wpAnyMany (P : Program) (md : Region.Mode) (ops : Array Oper) (S : Nat → World → World → Prop) (Inv : World → Prop) (Pn : Ending → World → Prop) (T : Nat → TyV) (n : Nat) (Lc : Array Bool → Prop) (Q : Facts → Act → Prop) : Nat → Array Bool → Facts → Act → Prop
 | 0, listed, F, a => Lc listed ∧ Q F a
 | fuel + 1, listed, F, a => Region.ready md ops listed ≠ [] ∧ ∀ i ∈ Region.ready md ops listed, i < n ∧ oneOpS P md ops S Inv Pn T i (wpAnyMany P md ops S Inv Pn T n Lc Q fuel (listed.setIfInBounds i true)) F a
theorem wpAny_of_many (hI : ∀ i w w', S i w w' → Inv w → Inv w') {n g : Nat} {Lc : Array Bool → Prop} {Q : Facts → Act → Prop} {Q' : Exit → Act → World → Prop} {D : List Deferred}
  (hP : ∀ k a w', Pn (.panicked k) w' → a.defers = D → Q' (.panic k) a w')
  (hQ : ∀ listed F a w, Lc listed → Inv w → (∀ k, F k w) → Q F a → wpAny P md ops Q' g listed a w) :
  ∀ (fuel : Nat) (listed : Array Bool) (F : Facts) (a : Act) (w : World), a.defers = D → Inv w → KeepsS S F → (∀ k, F k w) →
  wpAnyMany P md ops S Inv Pn T n Lc Q fuel listed F a → wpAny P md ops Q' (fuel + g) listed a w
 | 0, _, _, _, _, _, hw, _, hF, h => by rw [Nat.zero_add]; exact hQ _ _ _ _ h.1 hw hF h.2
 | fuel + 1, _, _, _, _, hd, hw, hk, hF, h => by
  rw [show fuel + 1 + g = (fuel + g) + 1 by omega]
  exact ⟨fun h0 => absurd h0 h.1, fun i hi => wpOp_of_oneOpS hI hP hd hw hk hF (fun F' a' w' hd' hw' hk' hF' => wpAny_of_many hI hP hQ fuel _ F' a' w' hd' hw' hk' hF') (h.2 i hi).2⟩
theorem wpAnyMany_first {n : Nat} {Lc : Array Bool → Prop} {Q : Facts → Act → Prop} {i : Nat} {oi : Oper} (hi : ops[i]? = some oi) (hsel : ∀ (j : Nat) (o : Oper) cs b, ops[j]? = some o → o.op ≠ .select cs b)
  (hs : Region.sinkB md ops n = true) (hc : Region.chainB md ops n = true) (hn : n < ops.size) (hin : i < n) (hdone : ∀ listed, Lc listed → ∀ j ∈ Region.ready md ops listed, n ≤ j) :
  ∀ (fuel : Nat) (listed : Array Bool) (F : Facts) (a : Act), HeadInv md ops n listed →
   (∀ j oj, ops[j]? = some oj → j ≠ i → listed.getD j true = false → (∀ e ∈ oj.after, Region.binds md e = true → e.on ≠ i) → oi.apart ops oj = true) →
   i ∈ Region.ready md ops listed → GoodS S i (T i) → (∀ w, Inv w → leanO md oi i F w → oneAt P ops (S i) Pn (T i) oi a w) →
   (∀ x, wpAnyMany P md ops S Inv Pn T n Lc Q fuel (listed.setIfInBounds i true) (upd F i ((T i).φ x)) (a.put oi.dst ((T i).f x))) → wpAnyMany P md ops S Inv Pn T n Lc Q (fuel + 1) listed F a := by
 intro fuel
 induction fuel with
 | zero =>
  intro listed F a inv _ hr hg hy H
  have hun := (mem_ready.1 hr).1
  refine ⟨fun h => (by rw [h] at hr; cases hr), fun j hj => ?_⟩
  have hjn : j < n := by
   rcases Nat.lt_or_ge j n with h | h
   ·exact h
   ·exact absurd hj (tail_waits hs hc hn inv _ i rfl hin hun j h)
  refine ⟨hjn, ?_⟩
  by_cases hji : j = i
  ·subst hji; unfold oneOpS; simp only [hi]; exact ⟨hg, hy, H⟩
  ·obtain ⟨x⟩ := (T i).inh
   have := hdone _ (H x).1 j (ready_mono hj hji)
   omega
 | succ fuel ih =>
  intro listed F a inv hfree hr hg hy H
  have hun := (mem_ready.1 hr).1
  refine ⟨fun h => (by rw [h] at hr; cases hr), fun j hj => ?_⟩
  have hjn : j < n := by
   rcases Nat.lt_or_ge j n with h | h
   ·exact h
   ·exact absurd hj (tail_waits hs hc hn inv _ i rfl hin hun j h)
  refine ⟨hjn, ?_⟩
  by_cases hji : j = i
  ·subst hji; unfold oneOpS; simp only [hi]; exact ⟨hg, hy, H⟩
  ·obtain ⟨hjun, oj, hoj, hall⟩ := mem_ready.1 hj
   have hnot : ∀ e ∈ oj.after, Region.binds md e = true → e.on ≠ i := fun e he hb heq => by
    have h1 := hall e he hb
    rw [heq, getD_both hun] at h1
    cases h1
   have hnoti : ∀ e ∈ oi.after, Region.binds md e = true → e.on ≠ j := fun e he hb heq => by
    obtain ⟨hiun, oi', hoi', halli⟩ := mem_ready.1 hr
    rw [hi] at hoi'
    cases hoi'
    have h1 := halli e he hb
    rw [heq, getD_both hjun] at h1
    cases h1
   obtain ⟨p1, p2, p3⟩ := Oper.apart_spec (hfree j oj hoj hji hjun hnot)
   have HJ : ∀ x, GoodS S j (T j) ∧ (∀ w, Inv w → leanO md oj j (upd F i ((T i).φ x)) w → oneAt P ops (S j) Pn (T j) oj (a.put oi.dst ((T i).f x)) w) ∧
     ∀ y, wpAnyMany P md ops S Inv Pn T n Lc Q fuel ((listed.setIfInBounds i true).setIfInBounds j true) (upd (upd F i ((T i).φ x)) j ((T j).φ y)) ((a.put oi.dst ((T i).f x)).put oj.dst ((T j).f y)) := by
    intro x
    have h1 := ((H x).2 j (ready_mono hj hji)).2
    unfold oneOpS at h1
    simp only [hoj] at h1
    exact h1
   unfold oneOpS
   simp only [hoj]
   obtain ⟨x0⟩ := (T i).inh
   refine ⟨(HJ x0).1, fun w hw hl => ?_, fun y => ?_⟩
   ·have h1 := (HJ x0).2.1 w hw ⟨by rw [upd_ne _ _ hji]; exact hl.1, fun e he hb => by rw [upd_ne _ _ (hnot e he hb)]; exact hl.2 e he hb⟩
    rwa [oneAt_put (fun cs b => hsel j oj cs b hoj) p1] at h1
   ·have hfree' : ∀ k ok, ops[k]? = some ok → k ≠ i → (listed.setIfInBounds j true).getD k true = false →
        (∀ e ∈ ok.after, Region.binds md e = true → e.on ≠ i) → oi.apart ops ok = true := fun k ok hk hki hun hno => by
     refine hfree k ok hk hki ?_ hno
     by_cases hjk : j = k
     ·subst hjk; exact hjun
     ·rw [getD_set_ne true hjk] at hun; exact hun
    refine ih (listed.setIfInBounds j true) _ _ (inv.set hj hjn) hfree' (ready_mono hr (Ne.symm hji)) hg ?_ ?_
    ·intro w hw hl
     rw [oneAt_put (fun cs b => hsel i oi cs b hi) p3]
     exact hy w hw ⟨by have := hl.1; rwa [upd_ne _ _ (Ne.symm hji)] at this, fun e he hb => by have := hl.2 e he hb; rwa [upd_ne _ _ (hnoti e he hb)] at this⟩
    ·intro x
     have h1 := (HJ x).2.2 y
     rw [Array.setIfInBounds_comm _ _ hji, upd_comm _ _ _ hji, ← Act.put_comm a _ _ p2]
     exact h1
theorem wpAnyMany_lex {n g : Nat} {Q : Facts → Act → Prop} (hsel : Region.noSelect ops = true) (hs : Region.sinkB md ops n = true) (hc : Region.chainB md ops n = true) (hn : n < ops.size) :
  ∀ (l : List Oper) (Ts : List TyV) (k : Nat) (listed : Array Bool) (F : Facts) (a : Act), (∀ j, j < l.length → l[j]? = ops[k + j]?) → (∀ j t, Ts[j]? = some t → T (k + j) = t) → k + l.length = n → HeadInv md ops n listed →
  Region.lexHead md ops g l.length k listed = true → wpMany P md ops S Inv Pn Q Ts k l F a →
  wpAnyMany P md ops S Inv Pn T n (fun listed' => Region.seqB md ops g n listed' = true) Q l.length listed F a
 | [], Ts, k, listed, F, a, hl, _, hk, inv, hB, h => by
  have : k = n := by simpa using hk
  subst this
  cases Ts <;> exact ⟨by simpa [Region.lexHead] using hB, by simpa [wpMany] using h⟩
 | o :: l, [], _, _, _, _, _, _, _, _, _, h => by simp [wpMany] at h
 | o :: l, t :: Ts, k, listed, F, a, hl, hT, hk, inv, hB, h => by
  have h0 : ops[k]? = some o := by simpa using (hl 0 (by simp)).symm
  have hTk : T k = t := by simpa using hT 0 t (by simp)
  simp only [List.length_cons, Region.lexHead, Bool.and_eq_true] at hB
  obtain ⟨⟨hr, hf⟩, hB'⟩ := hB
  have hkn : k < n := by simp only [List.length_cons] at hk; omega
  have hr' : k ∈ Region.ready md ops listed := by simpa using hr
  simp only [wpMany] at h
  subst hTk
  exact wpAnyMany_first h0 (Region.noSelect_spec hsel) hs hc hn hkn (fun listed hl => seqB_ready hl) l.length listed F a inv (Region.free_spec h0 hf) hr' h.1 h.2.1
   (fun x => wpAnyMany_lex hsel hs hc hn l Ts (k + 1) _ _ _ (fun j hj => by have := hl (j + 1) (by simp; omega); simpa [Nat.add_assoc, Nat.add_comm 1 j] using this)
    (fun j t ht => by have := hT (j + 1) t (by simpa using ht); simpa [Nat.add_assoc, Nat.add_comm 1 j] using this) (by simp only [List.length_cons] at hk; omega) (inv.set hr' hkn) hB' (h.2.2 x))
/-- one walk in the order of the text, then the tail -/
theorem wp_region_many (n : Nat) (S : Nat → World → World → Prop) (Inv : World → Prop) (F0 : Facts) (hIS : ∀ i w w', S i w w' → Inv w → Inv w') (hk0 : KeepsS S F0)
  {id : Nat} {Q : Exit → Act → World → Prop} {a : Act} {w : World} {l : List Oper} (Ts : List TyV) (hm : P.follows .mixedOrders = true) (hB : Region.lexTailB .any l.toArray n = true)
  (h0 : Inv w.drew) (h1 : ∀ k, F0 k w.drew)
  (h : wpMany P .any l.toArray S Inv (fun _ _ => False) (fun F a' => ∀ w', Inv w' → (∀ k, F k w') → wpList P l.toArray Q (l.drop n) a' w') Ts 0 (l.take n) F0 a) : (Code.region id l.toArray true).wp P Q a w := by
 have hP : ∀ k a' w', (fun (_ : Ending) (_ : World) => False) (.panicked k) w' → a'.defers = a.defers → Q (.panic k) a' w' := fun k a' w' h _ => h.elim
 simp only [Region.lexTailB, Bool.and_eq_true, decide_eq_true_eq] at hB
 obtain ⟨⟨⟨⟨h1', h2⟩, h3⟩, h4⟩, h5⟩ := hB
 have hlt : n < l.length := by simpa using h2
 have hlen : (l.take n).length = n := by rw [List.length_take]; omega
 refine wp_region_any hm ?_
 have inv : HeadInv .any l.toArray n (Array.replicate l.toArray.size false) := ⟨by simp, (fun j oj hj hl => by rw [getD_replicate_false] at hl; cases hl), (fun t ht ht' => by simp at ht'; simp [ht'])⟩
 have key : wpAnyMany P .any l.toArray S Inv (fun _ _ => False) (fun k => Ts.getD k ⟨Unit, ⟨()⟩, fun _ => undef, fun _ _ => True⟩) n (fun listed' => Region.seqB .any l.toArray (l.toArray.size - n) n listed' = true)
   (fun F a' => ∀ w', Inv w' → (∀ k, F k w') → wpList P l.toArray Q (l.drop n) a' w') (l.take n).length (Array.replicate l.toArray.size false) F0 a :=
  wpAnyMany_lex h1' h3 h4 h2 (l.take n) Ts 0 _ _ _ (fun j hj => by rw [hlen] at hj; simp [hj]) (by intro j t hj; simp [hj]) (by omega) inv (by rw [hlen]; exact h5) h
 have hfin := wpAny_of_many (P := P) (Pn := fun _ _ => False) (g := (l.drop n).length) hIS (Q' := Q) hP (fun listed F a' w' hl hw hF hq => wpAny_of_seq (l.drop n) n listed a' w' (fun j => by simp [List.getElem?_drop]) (by rw [List.length_drop]; simpa using hl) (hq w' hw hF)) _ _ _ _ _ rfl h0 hk0 h1 key
 have e : (l.take n).length + (l.drop n).length = l.length := by rw [← List.length_append, List.take_append_drop]
 rw [e] at hfin
 simpa using hfin
theorem wpMany_nil {Q : Facts → Act → Prop} {Ts : List TyV} {k : Nat} {F : Facts} {a : Act} (h : Q F a) : wpMany P md ops S Inv Pn Q Ts k [] F a := by
 cases Ts <;> exact h
theorem wpMany_cons {Q : Facts → Act → Prop} {t : TyV} {Ts : List TyV} {k : Nat} {o : Oper} {rest : List Oper} {F : Facts} {a : Act}
  (hg : GoodS S k t) (h1 : ∀ w, Inv w → leanO md o k F w → oneAt P ops (S k) Pn t o a w) (h2 : ∀ x, wpMany P md ops S Inv Pn Q Ts (k + 1) rest (upd F k (t.φ x)) (a.put o.dst (t.f x))) : wpMany P md ops S Inv Pn Q (t :: Ts) k (o :: rest) F a := ⟨hg, h1, h2⟩
theorem tvIs_goodS (v : Value) (k : Nat) : GoodS S k (tvIs v) := fun _ _ _ _ _ _ h => h
end
end Go.Proofs.YtheigpiffdabnaaGreat
namespace Go.Proofs.YtheigpiffdabnaaGreat
open Go Go.RowKit
theorem RrIn.keep {r : Rdr} {a : Nat} {bad : Int} {s : Bool} {M : Addr → Prop} {w w' : World} (h : RrIn r a bad s w) (hb : But M w w') (hM : ∀ x, M x → r.b < x.block) : RrIn r a bad s w' :=
 ⟨by rw [But.block hb r.b (lt_heap h.cells) (fun x hx e => by have := hM x e; omega)]; exact h.cells, SlIs.but h.toks hb (fun b o i e q => by have h1 := h.away b o e; have h2 : r.b < b := hM _ q; omega), h.away, h.lt, h.few, h.low⟩
theorem RrAt.keep {r : Rdr} {σ : Except Nat Nat} {s : Bool} {M : Addr → Prop} {w w' : World} (h : RrAt r σ s w) (hb : But M w w') (hM : ∀ x, M x → r.b < x.block) : RrAt r σ s w' := by
 cases σ with
 | ok i => exact RrIn.keep h hb hM
 | error k => obtain ⟨h1, a, h2⟩ := h; exact ⟨h1, a, h2.keep hb hM⟩
theorem RrAt.rb {r : Rdr} {σ : Except Nat Nat} {s : Bool} {w : World} (h : RrAt r σ s w) : r.b < w.heap.size := by
 obtain ⟨a, bad, h⟩ := h.in2
 exact lt_heap h.cells
theorem Got.one {p : PM Tree} {σ : Except Nat Nat} {t : Tree} (h : Got p σ t) : Got p σ t := h
theorem after_G {α β : Type} {p : PM α} {f : α → PM β} {σ : Except Nat Nat} {x : α} (h : Got p σ x) : after (bindM p f) σ = after (f x) (after p σ) := by
 cases σ with
 | error k => rfl
 | ok i =>
  cases hp : p i with
  | error k => rw [after_stop hp, after_err hp]; rfl
  | ok z =>
   obtain ⟨y, j⟩ := z
   have e := h i y j rfl hp
   subst e
   rw [after_bind hp, after_ok hp]
theorem Got.bind {α β : Type} {p : PM α} {f : α → PM β} {σ : Except Nat Nat} {x : α} {v : β} (h : Got p σ x) (hf : Got (f x) (after p σ) v) : Got (bindM p f) σ v := by
 intro i y j e hy
 subst e
 unfold bindM at hy
 cases hp : p i with
 | error k => rw [hp] at hy; cases hy
 | ok z =>
  obtain ⟨x', j'⟩ := z
  rw [hp] at hy
  have e := h i x' j' rfl hp
  subst e
  rw [after_ok hp] at hf
  exact hf j' y j rfl hy
/-- behind a fault there is a fault -/
def Err (a b : Except Nat Nat) : Prop := ∀ k, a = .error k → ∃ k', b = .error k'
theorem Err.ok {a : Except Nat Nat} {i : Nat} (h : Err a (.ok i)) : ∃ j, a = .ok j := by
 cases a with
 | ok j => exact ⟨j, rfl⟩
 | error k => obtain ⟨k', e⟩ := h k rfl; cases e
/-- what is still to be read: Q from σ, in the place of P from σ0 -/
structure Due {α : Type} (P : PM α) (σ0 : Except Nat Nat) (Q : PM α) (σ : Except Nat Nat) : Prop where
 st : after P σ0 = after Q σ
 gt : ∀ v, Got Q σ v → Got P σ0 v
 er : Err σ0 σ
theorem Due.refl {α : Type} (P : PM α) (σ0 : Except Nat Nat) : Due P σ0 P σ0 := ⟨rfl, fun _ h => h, fun k e => ⟨k, e⟩⟩
theorem Due.step {α β : Type} {P : PM β} {σ0 σ : Except Nat Nat} {q : PM α} {f : α → PM β} {x : α} (h : Due P σ0 (bindM q f) σ) (hg : Got q σ x) : Due P σ0 (f x) (after q σ) :=
 ⟨h.st.trans (after_G hg), fun v hv => h.gt v (hg.bind hv), fun k e => by obtain ⟨k', e'⟩ := h.er k e; exact ⟨k', by rw [e']; rfl⟩⟩
theorem Due.at_ {α : Type} {P Q : PM α} {σ0 σ σ' : Except Nat Nat} (h : Due P σ0 Q σ) (e : σ = σ') : Due P σ0 Q σ' := e ▸ h
/-- the contract of a rule -/
def RrPost (r : Rdr) (p : PM Tree) (σ : Except Nat Nat) (s : Bool) (w : World) (e : Ending) (w' : World) : Prop :=
 ∃ (q : Raw) (t : Tree), e = .returned (.agg (ndC q)) ∧ IsT (fun b => w.heap.size ≤ b) w' q t ∧ RrAt r (after p σ) s w' ∧ Mv r w w' ∧ Got p σ t
-- the reader's own functions in this form
-- where a rule stands
structure St (r : Rdr) (w0 : World) (σ : Except Nat Nat) (s : Bool) (W : World) : Prop where
 rr : RrAt r σ s W
 mv : Mv r w0 W
 res : ResAt w0 W
 rb : r.b < w0.heap.size
theorem St.on {r : Rdr} {w0 : World} {σ σ' : Except Nat Nat} {s : Bool} {W W' : World} (h : St r w0 σ s W) (hr : RrAt r σ' s W') (hm : Mv r W W') : St r w0 σ' s W' := ⟨hr, h.mv.trans hm, h.res.mv hm h.rb, h.rb⟩
theorem St.start {r : Rdr} {w0 : World} {σ : Except Nat Nat} {s : Bool} (h : RrAt r σ s w0) : St r w0 σ s (w0.alloc (.cells #[.int .i64 0, .string ⟨#[]⟩, .int .i64 0, .slice none 0 0] 37)) :=
 ⟨h.below (boxB w0 _), Mv.of_below (boxB w0 _), ResAt.start w0, h.rb⟩
/-- the result's variable gets its node -/
theorem St.ret {r : Rdr} {w0 : World} {σ : Except Nat Nat} {s : Bool} {W : World} {q : Raw} {t : Tree} (h : St r w0 σ s W) (ht : IsT (fun b => w0.heap.size < b) W q t) :
  (((((W.setCell ⟨w0.heap.size, 0, none⟩ (.int .i64 q.kind)).setCell ⟨w0.heap.size, 1, none⟩ (.string q.text)).setCell ⟨w0.heap.size, 2, none⟩ (.int .i64 q.at_)).setCell ⟨w0.heap.size, 3, none⟩ (.slice q.p q.n q.cap)).heap[w0.heap.size]? = some (.cells (ndC q) 37 (0, 0))) ∧
  IsT (fun b => w0.heap.size ≤ b) ((((W.setCell ⟨w0.heap.size, 0, none⟩ (.int .i64 q.kind)).setCell ⟨w0.heap.size, 1, none⟩ (.string q.text)).setCell ⟨w0.heap.size, 2, none⟩ (.int .i64 q.at_)).setCell ⟨w0.heap.size, 3, none⟩ (.slice q.p q.n q.cap)) q t ∧
  RrAt r σ s ((((W.setCell ⟨w0.heap.size, 0, none⟩ (.int .i64 q.kind)).setCell ⟨w0.heap.size, 1, none⟩ (.string q.text)).setCell ⟨w0.heap.size, 2, none⟩ (.int .i64 q.at_)).setCell ⟨w0.heap.size, 3, none⟩ (.slice q.p q.n q.cap)) ∧
  Mv r w0 ((((W.setCell ⟨w0.heap.size, 0, none⟩ (.int .i64 q.kind)).setCell ⟨w0.heap.size, 1, none⟩ (.string q.text)).setCell ⟨w0.heap.size, 2, none⟩ (.int .i64 q.at_)).setCell ⟨w0.heap.size, 3, none⟩ (.slice q.p q.n q.cap)) := by
 have key : ∀ (W : World) (k : Nat) (v : Value), But (fun a => a.block = w0.heap.size) W (W.setCell ⟨w0.heap.size, k, none⟩ v) := fun W k v => But.setCell W _ v rfl
 have bb := (((key W 0 (.int .i64 q.kind)).trans (key _ 1 (.string q.text))).trans (key _ 2 (.int .i64 q.at_))).trans (key _ 3 (.slice q.p q.n q.cap))
 have hrb := h.rb
 have mm := But.setCell_new (But.setCell_new (But.setCell_new (But.setCell_new h.mv ⟨w0.heap.size, 0, none⟩ (.int .i64 q.kind) (Nat.le_refl _)) ⟨w0.heap.size, 1, none⟩ (.string q.text) (Nat.le_refl _)) ⟨w0.heap.size, 2, none⟩ (.int .i64 q.at_) (Nat.le_refl _)) ⟨w0.heap.size, 3, none⟩ (.slice q.p q.n q.cap) (Nat.le_refl _)
 exact ⟨heap_setCell_same _ _ _ _ _ _ (heap_setCell_same _ _ _ _ _ _ (heap_setCell_same _ _ _ _ _ _ (heap_setCell_same _ _ _ _ _ _ h.res.z))), (ht.but bb (fun a e q => by have e' : a.block = w0.heap.size := e; omega)).mono (fun b q => Nat.le_of_lt q), h.rr.keep bb (fun x e => by have e' : x.block = w0.heap.size := e; omega), mm⟩
end Go.Proofs.YtheigpiffdabnaaGreat
namespace Go.Proofs.YtheigpiffdabnaaGreat
open Go Go.RowKit
theorem St.up {r : Rdr} {w0 : World} {σ : Except Nat Nat} {s : Bool} {W : World} (h : St r w0 σ s W) : w0.heap.size < W.heap.size := lt_heap h.res.z
/-- the type behind an arrow -/
def resultR (r : Rdr) (T : PM Tree) : PM Tree := bindM (tookM r ⟨#[45, 62]⟩) fun b => match b with
 | true => T
 | false => bindM (hereM r) fun a => ndM 15 ⟨#[117, 110, 105, 116]⟩ a []
theorem resultR_eq (r : Rdr) (T : PM Tree) : resultR r T = resultP r T := by
 funext i
 unfold resultR resultP bindM tookM
 by_cases hm : isMark r i ⟨#[45, 62]⟩ = true
 ·rw [if_pos hm, if_pos hm]
 ·rw [if_neg hm, if_neg hm]; rfl
end Go.Proofs.YtheigpiffdabnaaGreat
namespace Go.Proofs.YtheigpiffdabnaaGreat
open Go Go.RowKit
theorem RrIn.grown {r : Rdr} {a : Nat} {bad : Int} {s : Bool} {w w' : World} {row : Option Nat} (h : RrIn r a bad s w) (hg : w.grownBy w' row) (hr : ∀ g, row = some g → r.b < g) : RrIn r a bad s w' := by
 have hb := lt_heap h.cells
 have key : ∀ k, k ≤ r.b → w'.heap[k]? = w.heap[k]? := fun k hk => hg.block k (by omega) (fun e => by have := hr k e.symm; omega)
 refine ⟨by rw [key r.b (Nat.le_refl _)]; exact h.cells, ?_, h.away, h.lt, h.few, h.low⟩
 obtain ⟨hn, h2, h3, h4⟩ := h.toks.lies
 refine ⟨r.p, r.cap, rfl, h2, h3, fun h0 => ?_⟩
 obtain ⟨b, off, e, hc⟩ := h4 h0
 exact ⟨b, off, e, fun j v hv => by rw [World.cell?_of_block (key b (Nat.le_of_lt (h.away b off e)))]; exact hc j v hv⟩
theorem RrAt.grown {r : Rdr} {σ : Except Nat Nat} {s : Bool} {w w' : World} {row : Option Nat} (h : RrAt r σ s w) (hg : w.grownBy w' row) (hr : ∀ g, row = some g → r.b < g) : RrAt r σ s w' := by
 cases σ with
 | ok i => exact RrIn.grown h hg hr
 | error k => obtain ⟨h1, a, h2⟩ := h; exact ⟨h1, a, h2.grown hg hr⟩
theorem RrAt.mv {r : Rdr} {σ : Except Nat Nat} {s : Bool} {w w' : World} (h : RrAt r σ s w) (hb : But (fun _ => False) w w') : RrAt r σ s w' := h.keep hb (fun _ q => q.elim)
theorem same_grown {w w' : World} {row : Option Nat} (hg : w.grownBy w' row) : Same (fun a => row = some a.block) w w' := fun a v hc hm => by
 rw [World.cell?_of_block (hg.block a.block (World.block_lt_of_cell? w _ hc) (fun e => hm e.symm))]
 exact hc
theorem Nodes.but0 {B : Nat} {w w' : World} {v : Value} {ts : List Tree} (h : Nodes B w v ts) (hm : But (fun _ => False) w w') : Nodes B w' v ts := by
 obtain ⟨R, ⟨h1, h2⟩, hl, ht⟩ := h
 refine ⟨R, ⟨h1, ?_⟩, hl, fun i a c => (ht i a c).but hm (fun _ q => q.elim)⟩
 rcases h2 with h2 | ⟨g, cap, cur, hv, hg, hh, rest⟩
 ·exact .inl h2
 ·exact .inr ⟨g, cap, cur, hv, hg, by rw [hm.block g (lt_heap hh) (fun _ _ q => q)]; exact hh, rest⟩
theorem Nodes.own {B : Nat} {w : World} {v : Value} {ts : List Tree} (h : Nodes B w v ts) : ∀ g, v.ownBlock = some g → B ≤ g ∧ g < w.heap.size := by
 obtain ⟨R, ho, _⟩ := h
 exact ho.lt
/-- what the operations of a region turn: ic calls a rule, ia puts a node behind the list v of one's own -/
def Sx (r : Rdr) (ob : Option Nat) (ic ia : Nat) (i : Nat) (x y : World) : Prop := if i = ic then Mv r x y else if i = ia then x.grownBy y ob else But (fun _ => False) x y
/-- what stands all along -/
structure InvX (r : Rdr) (w0 : World) (ob : Option Nat) (wr W : World) : Prop where
 mv : Mv r w0 W
 size : wr.heap.size ≤ W.heap.size
 block : ∀ k, k < wr.heap.size → k ≠ r.b → ob ≠ some k → W.heap[k]? = wr.heap[k]?
theorem InvX.step {r : Rdr} {w0 : World} {ob : Option Nat} {wr x y : World} {ic ia : Nat} (i : Nat) (hs : Sx r ob ic ia i x y) (h : InvX r w0 ob wr x) (hob : ∀ g, ob = some g → w0.heap.size ≤ g) : InvX r w0 ob wr y := by
 unfold Sx at hs
 split at hs
 ·exact ⟨h.mv.trans hs, Nat.le_trans h.size hs.size, fun k hk h1 h2 => (But.block hs k (by have := h.size; omega) (fun a ha e => h1 (by have e' : a.block = r.b := e; omega))).trans (h.block k hk h1 h2)⟩
 ·split at hs
  ·exact ⟨h.mv.grown hs hob, Nat.le_trans h.size hs.size, fun k hk h1 h2 => (hs.block k (by have := h.size; omega) (fun e => h2 e.symm)).trans (h.block k hk h1 h2)⟩
  ·exact ⟨h.mv.trans (hs.mono (fun _ q => q.elim)), Nat.le_trans h.size hs.size, fun k hk h1 h2 => (hs.block k (by have := h.size; omega) (fun _ _ q => q)).trans (h.block k hk h1 h2)⟩
theorem InvX.start {r : Rdr} {w0 wr : World} {ob : Option Nat} (hm : Mv r w0 wr) : InvX r w0 ob wr wr.drew := ⟨hm.trans (But.drew wr), Nat.le_refl _, fun _ _ _ _ => rfl⟩
theorem InvX.box {r : Rdr} {w0 wr W : World} {ob : Option Nat} {g : Nat} {q : Raw} (h : InvX r w0 ob wr W) (hb : BoxAt r w0 g q wr) (hg : ob ≠ some g) : BoxAt r w0 g q W :=
 ⟨by rw [h.block g (lt_heap hb.z) (by have := hb.new; have := hb.old; omega) hg]; exact hb.z, hb.new, hb.old⟩
/-- what the rule and the list lean on -/
def F0x (r : Rdr) (σ : Except Nat Nat) (s : Bool) (B : Nat) (v : Value) (ts : List Tree) (ic ia : Nat) : Facts := fun k W => (k = ic → RrAt r σ s W) ∧ (k = ia → Nodes B W v ts)
theorem F0x.keeps {r : Rdr} {σ : Except Nat Nat} {s : Bool} {B : Nat} {v : Value} {ts : List Tree} {ic ia : Nat} (hB : r.b < B) (hv : ∀ g, v.ownBlock = some g → B ≤ g) : KeepsS (Sx r v.ownBlock ic ia) (F0x r σ s B v ts ic ia) := by
 intro i k x y hk hs hf
 unfold Sx at hs
 refine ⟨fun e => ?_, fun e => ?_⟩
 ·split at hs
  ·omega
  ·split at hs
   ·exact (hf.1 e).grown hs (fun g eg => by have := hv g eg; omega)
   ·exact (hf.1 e).mv hs
 ·split at hs
  ·exact (hf.2 e).mv hs hB
  ·split at hs
   ·omega
   ·exact (hf.2 e).but0 hs
theorem F0x.start {r : Rdr} {σ : Except Nat Nat} {s : Bool} {B : Nat} {v : Value} {ts : List Tree} {ic ia : Nat} {w : World} (h : RrAt r σ s w) (hn : Nodes B w v ts) : ∀ k, F0x r σ s B v ts ic ia k w.drew :=
 fun k => ⟨fun _ => h.mv (But.drew w), fun _ => hn.but0 (But.drew w)⟩
theorem Nodes.none (B : Nat) (w : World) : Nodes B w (.slice none 0 0) [] := ⟨[], OwnL.isNil _ _ _ _, rfl, fun i h => absurd h (by simp)⟩
section
variable {r : Rdr} {ob : Option Nat} {ic ia k : Nat} {wr : World} {P : Program} {Pn : Ending → World → Prop} {σ : Except Nat Nat} {s : Bool} {p : PM Tree}
/-- trees in new blocks stay -/
theorem Sx.tree {A : Nat → Prop} {i : Nat} {x y : World} {q : Raw} {t : Tree} (hs : Sx r ob ic ia i x y) (h : IsT A x q t) (hA : ∀ b, A b → b ≠ r.b ∧ ob ≠ some b) : IsT A y q t := by
 unfold Sx at hs
 split at hs
 ·exact h.but hs (fun a e q => (hA _ q).1 e)
 ·split at hs
  ·exact h.same (same_grown hs) (fun a e q => (hA _ q).2 e)
  ·exact h.but hs (fun _ q => q.elim)
theorem Sx.list {A : Nat → Prop} {i : Nat} {x y : World} {v : Value} {l : List Tree} (hs : Sx r ob ic ia i x y) (h : IsTs A x v l) (hA : ∀ b, A b → b ≠ r.b ∧ ob ≠ some b) : IsTs A y v l := by
 obtain ⟨p, n, cap, R, e, h1, h2, h3, h4, h5⟩ := h
 refine ⟨p, n, cap, R, e, ?_, h2, h3, h4, fun i a b => Sx.tree hs (h5 i a b) hA⟩
 unfold Sx at hs
 split at hs
 ·exact SlIs.butN h1 hs.same (fun b o i e h0 q => (hA _ (h3 b o e h0)).1 q)
 ·split at hs
  ·exact SlIs.butN h1 (same_grown hs) (fun b o i e h0 q => (hA _ (h3 b o e h0)).2 q)
  ·exact SlIs.butN h1 hs.same (fun b o i e h0 q => q)
theorem Sx.size {i : Nat} {x y : World} (hs : Sx r ob ic ia i x y) : x.heap.size ≤ y.heap.size := by
 unfold Sx at hs
 split at hs
 ·exact hs.size
 ·split at hs <;> exact hs.size
-- kinds
/-- a list of one's own -/
def tyList (B : Nat) (ob : Option Nat) (wr : World) (G : List Tree → Prop) : TyV := ⟨Value × List Tree, ⟨(undef, [])⟩, fun x => x.1, fun x W => Nodes B W x.1 x.2 ∧ G x.2 ∧ (x.1.ownBlock = ob ∨ ∃ g, x.1.ownBlock = some g ∧ wr.heap.size ≤ g)⟩
theorem tyList_f (B : Nat) (G : List Tree → Prop) (v : Value) (l : List Tree) : (tyList B ob wr G).f (v, l) = v := rfl
end
end Go.Proofs.YtheigpiffdabnaaGreat
namespace Go.Proofs.YtheigpiffdabnaaGreat
open Go Go.RowKit
/-- a variable that holds a node whose list is one's own and grows -/
structure KBox (r : Rdr) (w0 : World) (g : Nat) (q : Raw) (t : Tree) (W : World) : Prop where
 box : BoxAt r w0 g q W
 nodes : Nodes (g + 1) W (.slice q.p q.n q.cap) t.kids
 kd : q.kind = t.kind
 tx : q.text = t.text
 pl : q.at_ = t.at_
theorem KBox.on {r : Rdr} {w0 : World} {g : Nat} {q : Raw} {t : Tree} {W W' : World} (h : KBox r w0 g q t W) (hm : Mv r W W') : KBox r w0 g q t W' :=
 ⟨h.box.mvB hm h.box.old, h.nodes.mv hm (by have := h.box.new; have := h.box.old; omega), h.kd, h.tx, h.pl⟩
theorem KBox.first {r : Rdr} {w0 : World} {σ : Except Nat Nat} {s : Bool} {W : World} (k : Int) (t : ByteArray) (a : Int) (h : St r w0 σ s W) :
  KBox r w0 W.heap.size ⟨k, t, a, none, 0, 0⟩ (.mk k t a []) (W.alloc (.cells (ndC ⟨k, t, a, none, 0, 0⟩) 37)) :=
 ⟨⟨heap_alloc_new W _, lt_heap h.res.z, h.rb⟩, Nodes.none _ _, rfl, rfl, rfl⟩
theorem KBox.tree {r : Rdr} {w0 : World} {g : Nat} {q : Raw} {t : Tree} {W : World} (h : KBox r w0 g q t W) : IsT (fun b => w0.heap.size < b) W q t := by
 obtain ⟨k, s, a, l⟩ := t
 obtain ⟨k', s', a', p, n, cap⟩ := q
 have h1 : k' = k := h.kd
 have h2 : s' = s := h.tx
 have h3 : a' = a := h.pl
 subst h1
 subst h2
 subst h3
 have hg := h.box.new
 exact (IsT.node _ _ _ h.nodes.list).mono (fun b hb => by have hb' : g + 1 ≤ b := hb; omega)
theorem KBox.own {r : Rdr} {w0 : World} {g : Nat} {q : Raw} {t : Tree} {W : World} (h : KBox r w0 g q t W) : ∀ b, (Value.slice q.p q.n q.cap).ownBlock = some b → r.b < b ∧ b < W.heap.size ∧ g < b ∧ w0.heap.size ≤ b := fun b e => by
 obtain ⟨h1, h2⟩ := h.nodes.own b e
 have := h.box.new
 have := h.box.old
 exact ⟨by omega, h2, by omega, by omega⟩
/-- the list behind the region -/
theorem KBox.store {r : Rdr} {w0 : World} {g : Nat} {q : Raw} {t : Tree} {W W' : World} {p : Option Addr} {n cap : Nat} {ts : List Tree} (h : KBox r w0 g q t W) (hb : BoxAt r w0 g q W') (hn : Nodes (g + 1) W' (.slice p n cap) ts) :
  KBox r w0 g ⟨q.kind, q.text, q.at_, p, n, cap⟩ (.mk t.kind t.text t.at_ ts) (W'.setCell ⟨g, 3, none⟩ (.slice p n cap)) := by
 have key : But (fun a => a.block = g) W' (W'.setCell ⟨g, 3, none⟩ (.slice p n cap)) := But.setCell W' _ _ rfl
 refine ⟨⟨heap_setCell_same _ _ _ _ _ _ hb.z, hb.new, hb.old⟩, ?_, h.kd, h.tx, h.pl⟩
 obtain ⟨R, ⟨h1, h2⟩, hl, ht⟩ := hn
 refine ⟨R, ⟨h1, ?_⟩, hl, fun i a c => (ht i a c).but key (fun a e q => by have e' : a.block = g := e; have := q.1; omega)⟩
 rcases h2 with h2 | ⟨g', c', cur, hv, hg, hh, rest⟩
 ·exact .inl h2
 ·exact .inr ⟨g', c', cur, hv, hg, by rw [But.block key g' (lt_heap hh) (fun a ha e => by have e' : a.block = g := e; omega)]; exact hh, rest⟩
/-- a cell of a variable is written: all else stands -/
theorem St.poke {r : Rdr} {w0 : World} {σ : Except Nat Nat} {s : Bool} {W : World} (h : St r w0 σ s W) (g k : Nat) (v : Value) (hg : w0.heap.size < g) : St r w0 σ s (W.setCell ⟨g, k, none⟩ v) := by
 have key : But (fun a => a.block = g) W (W.setCell ⟨g, k, none⟩ v) := But.setCell W _ _ rfl
 have hrb := h.rb
 refine ⟨h.rr.keep key (fun x e => by have e' : x.block = g := e; omega), But.setCell_new h.mv _ _ (by show _ ≤ g; omega), ⟨?_⟩, h.rb⟩
 rw [But.block key w0.heap.size (lt_heap h.res.z) (fun a ha e => by have e' : a.block = g := e; omega)]
 exact h.res.z
/-- behind a region -/
theorem InvX.st {r : Rdr} {w0 : World} {σ σ' : Except Nat Nat} {s : Bool} {ob : Option Nat} {wr W : World} (h : InvX r w0 ob wr W) (hs : St r w0 σ s wr) (hr : RrAt r σ' s W) (hob : ∀ g, ob = some g → w0.heap.size < g) : St r w0 σ' s W :=
 ⟨hr, h.mv, ⟨by rw [h.block w0.heap.size (lt_heap hs.res.z) (by have := hs.rb; omega) (fun e => by have := hob _ e; omega)]; exact hs.res.z⟩, hs.rb⟩
theorem RrAt.self {r : Rdr} {σ : Except Nat Nat} {s : Bool} {w : World} (h : RrAt r σ s w) : w.cell? ⟨r.b, 3, none⟩ = some (.bool s) := by
 obtain ⟨a, bad, h⟩ := h.in2
 exact h.c.2.2.2.1
-- words, one after the other
end Go.Proofs.YtheigpiffdabnaaGreat
