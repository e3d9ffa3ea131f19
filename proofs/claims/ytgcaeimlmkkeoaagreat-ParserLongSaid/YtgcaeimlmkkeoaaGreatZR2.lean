/-
  LAWS: a region that draws its order, whose last operations come in one forced order behind all others: each operation of the head may turn the world by a relation of its own (S i), which keeps what the others lean on and leave.
-/
import Derived.Test.YtgcaeimlmkkeoaaGreatZA6
import Derived.Test.YtgcaeimlmkkeoaaGreatZR1
import Derived.Test.YtgcaeimlmkkeoaaGreatZA7
set_option linter.unusedSimpArgs false
set_option linter.unusedVariables false
namespace Go.Proofs.YtgcaeimlmkkeoaaGreat
open Go
section
variable {P : Program} {ops : Array Oper} {md : Region.Mode} {S : Nat → World → World → Prop} {Inv : World → Prop} {Pn : Ending → World → Prop} {T : Nat → TyV}
/-- what it leaves stands behind each other operation -/
def GoodS (S : Nat → World → World → Prop) (k : Nat) (t : TyV) : Prop := ∀ j x w w', j ≠ k → S j w w' → t.φ x w → t.φ x w'
def oneOpS (P : Program) (md : Region.Mode) (ops : Array Oper) (S : Nat → World → World → Prop) (Inv : World → Prop) (Pn : Ending → World → Prop) (T : Nat → TyV) (i : Nat) (K : Facts → Act → Prop) (F : Facts) (a : Act) : Prop :=
 match ops[i]? with
 | none => K F a
 | some o => GoodS S i (T i) ∧ (∀ w, Inv w → leanO md o i F w → oneAt P ops (S i) Pn (T i) o a w) ∧ ∀ x, K (upd F i ((T i).φ x)) (a.put o.dst ((T i).f x))
/-- the walk in the order of the text -/
def wpMany (P : Program) (md : Region.Mode) (ops : Array Oper) (S : Nat → World → World → Prop) (Inv : World → Prop) (Pn : Ending → World → Prop) (Q : Facts → Act → Prop) : List TyV → Nat → List Oper → Facts → Act → Prop
 | _, _, [], F, a => Q F a
 | t :: Ts, k, o :: rest, F, a => GoodS S k t ∧ (∀ w, Inv w → leanO md o k F w → oneAt P ops (S k) Pn t o a w) ∧ ∀ x, wpMany P md ops S Inv Pn Q Ts (k + 1) rest (upd F k (t.φ x)) (a.put o.dst (t.f x))
 | [], _, _ :: _, _, _ => False
def KeepsS (S : Nat → World → World → Prop) (F : Facts) : Prop := ∀ i k w w', k ≠ i → S i w w' → F k w → F k w'
theorem KeepsS.upd {F : Facts} (h : KeepsS S F) (i : Nat) {t : TyV} (hg : GoodS S i t) (x : t.α) : KeepsS S (upd F i (t.φ x)) := by
 intro j k w w' hk hl hf
 unfold Proofs.YtgcaeimlmkkeoaaGreat.upd at *
 split
 ·rename_i e; rw [if_pos e] at hf; exact hg j x w w' (by omega) hl hf
 ·rename_i e; rw [if_neg e] at hf; exact h j k w w' hk hl hf
theorem holds_updS {F : Facts} (h : KeepsS S F) {w w' : World} (i : Nat) (hl : S i w w') (hF : ∀ k, F k w) (t : TyV) (x : t.α) (hx : t.φ x w') : ∀ k, upd F i (t.φ x) k w' := by
 intro k
 unfold Proofs.YtgcaeimlmkkeoaaGreat.upd
 split
 ·exact hx
 ·rename_i e; exact h i k w w' e hl (hF k)
theorem wpOp_of_oneOpS (hI : ∀ i w w', S i w w' → Inv w → Inv w') {i : Nat} {F : Facts} {a : Act} {K : Facts → Act → Prop} {K' : Act → World → Prop} {Q' : Exit → Act → World → Prop} {w : World} {D : List Deferred}
  (hP : ∀ k a w', Pn (.panicked k) w' → a.defers = D → Q' (.panic k) a w') (hD : a.defers = D)
  (hC : Inv w) (hk : KeepsS S F) (hF : ∀ k, F k w) (h : ∀ F a w', a.defers = D → Inv w' → KeepsS S F → (∀ k, F k w') → K F a → K' a w') (hh : oneOpS P md ops S Inv Pn T i K F a) : wpOp P ops Q' i K' a w := by
 unfold oneOpS at hh
 unfold wpOp
 split
 ·rename_i ho; simp only [ho] at hh; exact h _ _ _ hD hC hk hF hh
 ·rename_i o ho
  simp only [ho] at hh
  obtain ⟨hg, hh1, hh2⟩ := hh
  have h1 := hh1 w hC ⟨hF i, fun e _ _ => hF e.on⟩
  unfold oneAt at h1
  split
  ·rename_i hw
   rw [if_pos hw] at h1
   refine .inl ?_
   unfold Oper.wp
   generalize (execOp a.eval o).run P w = r at h1
   cases r with
   | ok n w' =>
    cases n <;> simp only [oneUpon] at h1 <;> simp only [Oper.upon]
    case value u =>
     obtain ⟨e1, x, rfl, e3⟩ := h1
     exact h _ _ _ ((put_defers _ _ _).trans hD) (hI i _ _ e1 hC) (hk.upd i hg x) (holds_updS hk i e1 hF _ x e3) (hh2 x)
    case skip =>
     obtain ⟨e1, x, e2, e3⟩ := h1
     rw [e2]
     exact h _ _ _ ((put_defers _ _ _).trans hD) (hI i _ _ e1 hC) (hk.upd i hg x) (holds_updS hk i e1 hF _ x e3) (hh2 x)
    case enter f args =>
     refine h1.mono ?_
     rintro e w'' (⟨x, rfl, e2, e3⟩ | ⟨k, rfl, e3⟩)
     ·exact h _ _ _ ((put_defers _ _ _).trans hD) (hI i _ _ e2 hC) (hk.upd i hg x) (holds_updS hk i e2 hF _ x e3) (hh2 x)
     ·exact hP k a w'' e3 hD
   | halt x w' => simp only [oneUpon] at h1
  ·rename_i hw
   rw [if_neg hw] at h1
   obtain ⟨x, e2, e3⟩ := h1
   rw [e2]
   have hx := hh2 x
   refine h _ _ _ ((put_defers _ _ _).trans hD) hC (hk.upd i hg x) ?_ hx
   intro k
   unfold upd
   split
   ·exact e3
   ·exact hF k
def wpAnyMany (P : Program) (md : Region.Mode) (ops : Array Oper) (S : Nat → World → World → Prop) (Inv : World → Prop) (Pn : Ending → World → Prop) (T : Nat → TyV) (n : Nat) (Lc : Array Bool → Prop) (Q : Facts → Act → Prop) : Nat → Array Bool → Facts → Act → Prop
 | 0, listed, F, a => Lc listed ∧ Q F a
 | fuel + 1, listed, F, a => Region.ready md ops listed ≠ [] ∧ ∀ i ∈ Region.ready md ops listed, i < n ∧ oneOpS P md ops S Inv Pn T i (wpAnyMany P md ops S Inv Pn T n Lc Q fuel (listed.setIfInBounds i true)) F a
theorem wpAny_of_many (hI : ∀ i w w', S i w w' → Inv w → Inv w') {n g : Nat} {Lc : Array Bool → Prop} {Q : Facts → Act → Prop} {Q' : Exit → Act → World → Prop} {D : List Deferred}
  (hP : ∀ k a w', Pn (.panicked k) w' → a.defers = D → Q' (.panic k) a w')
  (hQ : ∀ listed F a w, Lc listed → Inv w → (∀ k, F k w) → Q F a → wpAny P md ops Q' g listed a w) :
  ∀ (fuel : Nat) (listed : Array Bool) (F : Facts) (a : Act) (w : World), a.defers = D → Inv w → KeepsS S F → (∀ k, F k w) →
  wpAnyMany P md ops S Inv Pn T n Lc Q fuel listed F a → wpAny P md ops Q' (fuel + g) listed a w
 | 0, _, _, _, _, _, hw, _, hF, h => by rw [Nat.zero_add]; exact hQ _ _ _ _ h.1 hw hF h.2
 | fuel + 1, _, _, _, _, hd, hw, hk, hF, h => by
  rw [show fuel + 1 + g = (fuel + g) + 1 by omega]
  exact ⟨fun h0 => absurd h0 h.1, fun i hi => wpOp_of_oneOpS hI hP hd hw hk hF (fun F' a' w' hd' hw' hk' hF' => wpAny_of_many hI hP hQ fuel _ F' a' w' hd' hw' hk' hF') (h.2 i hi).2⟩
theorem wpAnyMany_first {n : Nat} {Lc : Array Bool → Prop} {Q : Facts → Act → Prop} {i : Nat} {oi : Oper} (hi : ops[i]? = some oi) (hsel : ∀ (j : Nat) (o : Oper) cs b, ops[j]? = some o → o.op ≠ .select cs b)
  (hs : Region.sinkB md ops n = true) (hc : Region.chainB md ops n = true) (hn : n < ops.size) (hin : i < n) (hdone : ∀ listed, Lc listed → ∀ j ∈ Region.ready md ops listed, n ≤ j) :
  ∀ (fuel : Nat) (listed : Array Bool) (F : Facts) (a : Act), HeadInv md ops n listed →
   (∀ j oj, ops[j]? = some oj → j ≠ i → listed.getD j true = false → (∀ e ∈ oj.after, Region.binds md e = true → e.on ≠ i) → oi.apart ops oj = true) →
   i ∈ Region.ready md ops listed → GoodS S i (T i) → (∀ w, Inv w → leanO md oi i F w → oneAt P ops (S i) Pn (T i) oi a w) →
   (∀ x, wpAnyMany P md ops S Inv Pn T n Lc Q fuel (listed.setIfInBounds i true) (upd F i ((T i).φ x)) (a.put oi.dst ((T i).f x))) → wpAnyMany P md ops S Inv Pn T n Lc Q (fuel + 1) listed F a := by
 intro fuel
 induction fuel with
 | zero =>
  intro listed F a inv _ hr hg hy H
  have hun := (mem_ready.1 hr).1
  refine ⟨fun h => (by rw [h] at hr; cases hr), fun j hj => ?_⟩
  have hjn : j < n := by
   rcases Nat.lt_or_ge j n with h | h
   ·exact h
   ·exact absurd hj (tail_waits hs hc hn inv _ i rfl hin hun j h)
  refine ⟨hjn, ?_⟩
  by_cases hji : j = i
  ·subst hji; unfold oneOpS; simp only [hi]; exact ⟨hg, hy, H⟩
  ·obtain ⟨x⟩ := (T i).inh
   have := hdone _ (H x).1 j (ready_mono hj hji)
   omega
 | succ fuel ih =>
  intro listed F a inv hfree hr hg hy H
  have hun := (mem_ready.1 hr).1
  refine ⟨fun h => (by rw [h] at hr; cases hr), fun j hj => ?_⟩
  have hjn : j < n := by
   rcases Nat.lt_or_ge j n with h | h
   ·exact h
   ·exact absurd hj (tail_waits hs hc hn inv _ i rfl hin hun j h)
  refine ⟨hjn, ?_⟩
  by_cases hji : j = i
  ·subst hji; unfold oneOpS; simp only [hi]; exact ⟨hg, hy, H⟩
  ·obtain ⟨hjun, oj, hoj, hall⟩ := mem_ready.1 hj
   have hnot : ∀ e ∈ oj.after, Region.binds md e = true → e.on ≠ i := fun e he hb heq => by
    have h1 := hall e he hb
    rw [heq, getD_both hun] at h1
    cases h1
   have hnoti : ∀ e ∈ oi.after, Region.binds md e = true → e.on ≠ j := fun e he hb heq => by
    obtain ⟨hiun, oi', hoi', halli⟩ := mem_ready.1 hr
    rw [hi] at hoi'
    cases hoi'
    have h1 := halli e he hb
    rw [heq, getD_both hjun] at h1
    cases h1
   obtain ⟨p1, p2, p3⟩ := Oper.apart_spec (hfree j oj hoj hji hjun hnot)
   have HJ : ∀ x, GoodS S j (T j) ∧ (∀ w, Inv w → leanO md oj j (upd F i ((T i).φ x)) w → oneAt P ops (S j) Pn (T j) oj (a.put oi.dst ((T i).f x)) w) ∧
     ∀ y, wpAnyMany P md ops S Inv Pn T n Lc Q fuel ((listed.setIfInBounds i true).setIfInBounds j true) (upd (upd F i ((T i).φ x)) j ((T j).φ y)) ((a.put oi.dst ((T i).f x)).put oj.dst ((T j).f y)) := by
    intro x
    have h1 := ((H x).2 j (ready_mono hj hji)).2
    unfold oneOpS at h1
    simp only [hoj] at h1
    exact h1
   unfold oneOpS
   simp only [hoj]
   obtain ⟨x0⟩ := (T i).inh
   refine ⟨(HJ x0).1, fun w hw hl => ?_, fun y => ?_⟩
   ·have h1 := (HJ x0).2.1 w hw ⟨by rw [upd_ne _ _ hji]; exact hl.1, fun e he hb => by rw [upd_ne _ _ (hnot e he hb)]; exact hl.2 e he hb⟩
    rwa [oneAt_put (fun cs b => hsel j oj cs b hoj) p1] at h1
   ·have hfree' : ∀ k ok, ops[k]? = some ok → k ≠ i → (listed.setIfInBounds j true).getD k true = false →
        (∀ e ∈ ok.after, Region.binds md e = true → e.on ≠ i) → oi.apart ops ok = true := fun k ok hk hki hun hno => by
     refine hfree k ok hk hki ?_ hno
     by_cases hjk : j = k
     ·subst hjk; exact hjun
     ·rw [getD_set_ne true hjk] at hun; exact hun
    refine ih (listed.setIfInBounds j true) _ _ (inv.set hj hjn) hfree' (ready_mono hr (Ne.symm hji)) hg ?_ ?_
    ·intro w hw hl
     rw [oneAt_put (fun cs b => hsel i oi cs b hi) p3]
     exact hy w hw ⟨by have := hl.1; rwa [upd_ne _ _ (Ne.symm hji)] at this, fun e he hb => by have := hl.2 e he hb; rwa [upd_ne _ _ (hnoti e he hb)] at this⟩
    ·intro x
     have h1 := (HJ x).2.2 y
     rw [Array.setIfInBounds_comm _ _ hji, upd_comm _ _ _ hji, ← Act.put_comm a _ _ p2]
     exact h1
theorem wpAnyMany_lex {n g : Nat} {Q : Facts → Act → Prop} (hsel : Region.noSelect ops = true) (hs : Region.sinkB md ops n = true) (hc : Region.chainB md ops n = true) (hn : n < ops.size) :
  ∀ (l : List Oper) (Ts : List TyV) (k : Nat) (listed : Array Bool) (F : Facts) (a : Act), (∀ j, j < l.length → l[j]? = ops[k + j]?) → (∀ j t, Ts[j]? = some t → T (k + j) = t) → k + l.length = n → HeadInv md ops n listed →
  Region.lexHead md ops g l.length k listed = true → wpMany P md ops S Inv Pn Q Ts k l F a →
  wpAnyMany P md ops S Inv Pn T n (fun listed' => Region.seqB md ops g n listed' = true) Q l.length listed F a
 | [], Ts, k, listed, F, a, hl, _, hk, inv, hB, h => by
  have : k = n := by simpa using hk
  subst this
  cases Ts <;> exact ⟨by simpa [Region.lexHead] using hB, by simpa [wpMany] using h⟩
 | o :: l, [], _, _, _, _, _, _, _, _, _, h => by simp [wpMany] at h
 | o :: l, t :: Ts, k, listed, F, a, hl, hT, hk, inv, hB, h => by
  have h0 : ops[k]? = some o := by simpa using (hl 0 (by simp)).symm
  have hTk : T k = t := by simpa using hT 0 t (by simp)
  simp only [List.length_cons, Region.lexHead, Bool.and_eq_true] at hB
  obtain ⟨⟨hr, hf⟩, hB'⟩ := hB
  have hkn : k < n := by simp only [List.length_cons] at hk; omega
  have hr' : k ∈ Region.ready md ops listed := by simpa using hr
  simp only [wpMany] at h
  subst hTk
  exact wpAnyMany_first h0 (Region.noSelect_spec hsel) hs hc hn hkn (fun listed hl => seqB_ready hl) l.length listed F a inv (Region.free_spec h0 hf) hr' h.1 h.2.1
   (fun x => wpAnyMany_lex hsel hs hc hn l Ts (k + 1) _ _ _ (fun j hj => by have := hl (j + 1) (by simp; omega); simpa [Nat.add_assoc, Nat.add_comm 1 j] using this)
    (fun j t ht => by have := hT (j + 1) t (by simpa using ht); simpa [Nat.add_assoc, Nat.add_comm 1 j] using this) (by simp only [List.length_cons] at hk; omega) (inv.set hr' hkn) hB' (h.2.2 x))
/-- one walk in the order of the text, then the tail -/
theorem wp_region_many (n : Nat) (S : Nat → World → World → Prop) (Inv : World → Prop) (F0 : Facts) (hIS : ∀ i w w', S i w w' → Inv w → Inv w') (hk0 : KeepsS S F0)
  {id : Nat} {Q : Exit → Act → World → Prop} {a : Act} {w : World} {l : List Oper} (Ts : List TyV) (hm : P.follows .mixedOrders = true) (hB : Region.lexTailB .any l.toArray n = true)
  (h0 : Inv w.drew) (h1 : ∀ k, F0 k w.drew)
  (h : wpMany P .any l.toArray S Inv (fun _ _ => False) (fun F a' => ∀ w', Inv w' → (∀ k, F k w') → wpList P l.toArray Q (l.drop n) a' w') Ts 0 (l.take n) F0 a) : (Code.region id l.toArray true).wp P Q a w := by
 have hP : ∀ k a' w', (fun (_ : Ending) (_ : World) => False) (.panicked k) w' → a'.defers = a.defers → Q (.panic k) a' w' := fun k a' w' h _ => h.elim
 simp only [Region.lexTailB, Bool.and_eq_true, decide_eq_true_eq] at hB
 obtain ⟨⟨⟨⟨h1', h2⟩, h3⟩, h4⟩, h5⟩ := hB
 have hlt : n < l.length := by simpa using h2
 have hlen : (l.take n).length = n := by rw [List.length_take]; omega
 refine wp_region_any hm ?_
 have inv : HeadInv .any l.toArray n (Array.replicate l.toArray.size false) := ⟨by simp, (fun j oj hj hl => by rw [getD_replicate_false] at hl; cases hl), (fun t ht ht' => by simp at ht'; simp [ht'])⟩
 have key : wpAnyMany P .any l.toArray S Inv (fun _ _ => False) (fun k => Ts.getD k ⟨Unit, ⟨()⟩, fun _ => undef, fun _ _ => True⟩) n (fun listed' => Region.seqB .any l.toArray (l.toArray.size - n) n listed' = true)
   (fun F a' => ∀ w', Inv w' → (∀ k, F k w') → wpList P l.toArray Q (l.drop n) a' w') (l.take n).length (Array.replicate l.toArray.size false) F0 a :=
  wpAnyMany_lex h1' h3 h4 h2 (l.take n) Ts 0 _ _ _ (fun j hj => by rw [hlen] at hj; simp [hj]) (by intro j t hj; simp [hj]) (by omega) inv (by rw [hlen]; exact h5) h
 have hfin := wpAny_of_many (P := P) (Pn := fun _ _ => False) (g := (l.drop n).length) hIS (Q' := Q) hP (fun listed F a' w' hl hw hF hq => wpAny_of_seq (l.drop n) n listed a' w' (fun j => by simp [List.getElem?_drop]) (by rw [List.length_drop]; simpa using hl) (hq w' hw hF)) _ _ _ _ _ rfl h0 hk0 h1 key
 have e : (l.take n).length + (l.drop n).length = l.length := by rw [← List.length_append, List.take_append_drop]
 rw [e] at hfin
 simpa using hfin
theorem wpMany_nil {Q : Facts → Act → Prop} {Ts : List TyV} {k : Nat} {F : Facts} {a : Act} (h : Q F a) : wpMany P md ops S Inv Pn Q Ts k [] F a := by
 cases Ts <;> exact h
theorem wpMany_cons {Q : Facts → Act → Prop} {t : TyV} {Ts : List TyV} {k : Nat} {o : Oper} {rest : List Oper} {F : Facts} {a : Act}
  (hg : GoodS S k t) (h1 : ∀ w, Inv w → leanO md o k F w → oneAt P ops (S k) Pn t o a w) (h2 : ∀ x, wpMany P md ops S Inv Pn Q Ts (k + 1) rest (upd F k (t.φ x)) (a.put o.dst (t.f x))) : wpMany P md ops S Inv Pn Q (t :: Ts) k (o :: rest) F a := ⟨hg, h1, h2⟩
theorem tvIs_goodS (v : Value) (k : Nat) : GoodS S k (tvIs v) := fun _ _ _ _ _ _ h => h
end
end Go.Proofs.YtgcaeimlmkkeoaaGreat
namespace Go.Proofs.YtgcaeimlmkkeoaaGreat
open Go Go.RowKit
theorem RrIn.keep {r : Rdr} {a : Nat} {bad : Int} {s : Bool} {M : Addr → Prop} {w w' : World} (h : RrIn r a bad s w) (hb : But M w w') (hM : ∀ x, M x → r.b < x.block) : RrIn r a bad s w' :=
 ⟨by rw [But.block hb r.b (lt_heap h.cells) (fun x hx e => by have := hM x e; omega)]; exact h.cells, SlIs.but h.toks hb (fun b o i e q => by have h1 := h.away b o e; have h2 : r.b < b := hM _ q; omega), h.away, h.lt, h.few, h.low⟩
theorem RrAt.keep {r : Rdr} {σ : Except Nat Nat} {s : Bool} {M : Addr → Prop} {w w' : World} (h : RrAt r σ s w) (hb : But M w w') (hM : ∀ x, M x → r.b < x.block) : RrAt r σ s w' := by
 cases σ with
 | ok i => exact RrIn.keep h hb hM
 | error k => obtain ⟨h1, a, h2⟩ := h; exact ⟨h1, a, h2.keep hb hM⟩
theorem RrAt.rb {r : Rdr} {σ : Except Nat Nat} {s : Bool} {w : World} (h : RrAt r σ s w) : r.b < w.heap.size := by
 obtain ⟨a, bad, h⟩ := h.in2
 exact lt_heap h.cells
theorem Got.unit (p : PM Unit) (σ : Except Nat Nat) : Got p σ () := fun _ _ _ _ _ => rfl
theorem Got.one {p : PM Tree} {σ : Except Nat Nat} {t : Tree} (h : Got p σ t) : Got p σ t := h
theorem after_G {α β : Type} {p : PM α} {f : α → PM β} {σ : Except Nat Nat} {x : α} (h : Got p σ x) : after (bindM p f) σ = after (f x) (after p σ) := by
 cases σ with
 | error k => rfl
 | ok i =>
  cases hp : p i with
  | error k => rw [after_stop hp, after_err hp]; rfl
  | ok z =>
   obtain ⟨y, j⟩ := z
   have e := h i y j rfl hp
   subst e
   rw [after_bind hp, after_ok hp]
theorem Got.bind {α β : Type} {p : PM α} {f : α → PM β} {σ : Except Nat Nat} {x : α} {v : β} (h : Got p σ x) (hf : Got (f x) (after p σ) v) : Got (bindM p f) σ v := by
 intro i y j e hy
 subst e
 unfold bindM at hy
 cases hp : p i with
 | error k => rw [hp] at hy; cases hy
 | ok z =>
  obtain ⟨x', j'⟩ := z
  rw [hp] at hy
  have e := h i x' j' rfl hp
  subst e
  rw [after_ok hp] at hf
  exact hf j' y j rfl hy
theorem after_pure {α : Type} (x : α) (σ : Except Nat Nat) : after (pureM x) σ = σ := by cases σ <;> rfl
theorem Got.pure {α : Type} (x : α) (σ : Except Nat Nat) : Got (pureM x) σ x := fun i y j e h => by
 have h' : Except.ok (ε := Nat) (x, i) = .ok (y, j) := h
 simp only [Except.ok.injEq, Prod.mk.injEq] at h'
 exact h'.1
theorem after_here (r : Rdr) (σ : Except Nat Nat) : after (hereM r) σ = σ := by cases σ <;> rfl
theorem after_tok (r : Rdr) (σ : Except Nat Nat) : after (tokM r) σ = σ := by cases σ <;> rfl
theorem after_is (r : Rdr) (sg : ByteArray) (σ : Except Nat Nat) : after (isM r sg) σ = σ := by cases σ <;> rfl
/-- behind a fault there is a fault -/
def Err (a b : Except Nat Nat) : Prop := ∀ k, a = .error k → ∃ k', b = .error k'
theorem Err.ok {a : Except Nat Nat} {i : Nat} (h : Err a (.ok i)) : ∃ j, a = .ok j := by
 cases a with
 | ok j => exact ⟨j, rfl⟩
 | error k => obtain ⟨k', e⟩ := h k rfl; cases e
/-- what is still to be read: Q from σ, in the place of P from σ0 -/
structure Due {α : Type} (P : PM α) (σ0 : Except Nat Nat) (Q : PM α) (σ : Except Nat Nat) : Prop where
 st : after P σ0 = after Q σ
 gt : ∀ v, Got Q σ v → Got P σ0 v
 er : Err σ0 σ
theorem Due.refl {α : Type} (P : PM α) (σ0 : Except Nat Nat) : Due P σ0 P σ0 := ⟨rfl, fun _ h => h, fun k e => ⟨k, e⟩⟩
theorem Due.step {α β : Type} {P : PM β} {σ0 σ : Except Nat Nat} {q : PM α} {f : α → PM β} {x : α} (h : Due P σ0 (bindM q f) σ) (hg : Got q σ x) : Due P σ0 (f x) (after q σ) :=
 ⟨h.st.trans (after_G hg), fun v hv => h.gt v (hg.bind hv), fun k e => by obtain ⟨k', e'⟩ := h.er k e; exact ⟨k', by rw [e']; rfl⟩⟩
theorem Due.to {α : Type} {P Q Q' : PM α} {σ0 σ : Except Nat Nat} (h : Due P σ0 Q σ) (e : Q = Q') : Due P σ0 Q' σ := e ▸ h
theorem Due.at_ {α : Type} {P Q : PM α} {σ0 σ σ' : Except Nat Nat} (h : Due P σ0 Q σ) (e : σ = σ') : Due P σ0 Q σ' := e ▸ h
/-- the contract of a rule -/
def RrPost (r : Rdr) (p : PM Tree) (σ : Except Nat Nat) (s : Bool) (w : World) (e : Ending) (w' : World) : Prop :=
 ∃ (q : Raw) (t : Tree), e = .returned (.agg (ndC q)) ∧ IsT (fun b => w.heap.size ≤ b) w' q t ∧ RrAt r (after p σ) s w' ∧ Mv r w w' ∧ Got p σ t
theorem Due.lift {r : Rdr} {P Q : PM Tree} {σ0 σ : Except Nat Nat} {s : Bool} {w w' : World} {e : Ending} (h : Due P σ0 Q σ) (hp : RrPost r Q σ s w e w') : RrPost r P σ0 s w e w' := by
 obtain ⟨q, t, h1, h2, h3, h4, h5⟩ := hp
 exact ⟨q, t, h1, h2, by rw [h.st]; exact h3, h4, h.gt t h5⟩
-- the reader's own functions in this form
theorem take_r (r : Rdr) (σ : Except Nat Nat) (s : Bool) (sg : ByteArray) (w : World) (h : RrAt r σ s w) (hE : EndAt r) (hK : Known r.L) (hs : sg.size ≠ 0) (hk : sg.toList ∈ knownL) :
  Calls Tryz.prog 55 #[.pointer (some ⟨r.b, 0, none⟩), .string sg] w fun e w' => ∃ b : Bool, e = .returned (.bool b) ∧ RrAt r (after (tookM r sg) σ) s w' ∧ Mv r w w' ∧ Got (tookM r sg) σ b ∧ ∀ k, σ = .error k → b = false := by
 refine (rTake_any r σ s sg w h hE hK hs hk).mono ?_
 rintro e w' ⟨b, rfl, hm, ⟨i, j, rfl, ht, hr⟩ | ⟨k, rfl, rfl, hr⟩⟩
 ·exact ⟨b, rfl, by rw [after_ok ht]; exact hr, hm, Got.of ht, fun k e => by cases e⟩
 ·exact ⟨false, rfl, hr, hm, Got.err _ _ _, fun _ _ => rfl⟩
theorem need_r (r : Rdr) (σ : Except Nat Nat) (s : Bool) (sg : ByteArray) (w : World) (h : RrAt r σ s w) (hE : EndAt r) (hK : Known r.L) (hs : sg.size ≠ 0) (hk : sg.toList ∈ knownL) :
  Calls Tryz.prog 57 #[.pointer (some ⟨r.b, 0, none⟩), .string sg] w fun e w' => e = .returned (.tuple #[]) ∧ RrAt r (after (needM r sg) σ) s w' ∧ Mv r w w' :=
 (rNeed_any r σ s sg w h hE hK hs hk).mono fun e w' ⟨h1, h2, h3⟩ => ⟨h1, h3, h2⟩
theorem name_r (r : Rdr) (σ : Except Nat Nat) (s : Bool) (w : World) (h : RrAt r σ s w) (hE : EndAt r) :
  Calls Tryz.prog 56 #[.pointer (some ⟨r.b, 0, none⟩)] w fun e w' => ∃ t : ByteArray, e = .returned (.string t) ∧ RrAt r (after (nameM r) σ) s w' ∧ Mv r w w' ∧ Got (nameM r) σ t :=
 (rName_any r σ s w h hE).mono fun e w' ⟨t, h1, h2, h3, h4⟩ => ⟨t, h1, h3, h2, h4⟩
theorem deep_r (r : Rdr) (σ : Except Nat Nat) (s : Bool) (lv : Int) (w : World) (h : RrAt r σ s w) :
  Calls Tryz.prog 67 #[.pointer (some ⟨r.b, 0, none⟩), .int .i64 lv] w fun e w' => e = .returned (.tuple #[]) ∧ RrAt r (after (deepM lv) σ) s w' ∧ Mv r w w' :=
 (rDeep_any r σ s lv w h).mono fun e w' ⟨h1, h2, h3⟩ => ⟨h1, h3, h2⟩
theorem here_r (r : Rdr) (σ : Except Nat Nat) (s : Bool) (w : World) (h : RrAt r σ s w) :
  Calls Tryz.prog 54 #[.pointer (some ⟨r.b, 0, none⟩)] w fun e w' => ∃ x : Int, e = .returned (.int .i64 x) ∧ RrAt r (after (hereM r) σ) s w' ∧ Mv r w w' ∧ Got (hereM r) σ x := by
 obtain ⟨a, bad, hin, _, ha⟩ := h.in_
 refine (rHere_any r a bad s w hin).mono ?_
 rintro e w' ⟨rfl, hb⟩
 refine ⟨_, rfl, by rw [after_here]; exact h.below hb, Mv.of_below hb, fun i x j e hx => ?_⟩
 have e2 := ha i e
 have hx' : Except.ok (ε := Nat) ((r.L.getD i tok0).at_, i) = .ok (x, j) := hx
 simp only [Except.ok.injEq, Prod.mk.injEq] at hx'
 rw [e2]
 exact hx'.1
theorem next_r (r : Rdr) (σ : Except Nat Nat) (s : Bool) (w : World) (h : RrAt r σ s w) :
  Calls Tryz.prog 39 #[.pointer (some ⟨r.b, 0, none⟩)] w fun e w' => ∃ x : Lx.Tok, e = .returned (.agg (tkC x.kind x.text x.at_)) ∧ RrAt r (after (tokM r) σ) s w' ∧ Mv r w w' ∧ Got (tokM r) σ x := by
 obtain ⟨a, bad, hin, _, ha⟩ := h.in_
 refine (rNext_any r a bad s w hin).mono ?_
 rintro e w' ⟨rfl, hb⟩
 refine ⟨_, rfl, by rw [after_tok]; exact h.below hb, Mv.of_below hb, fun i x j e hx => ?_⟩
 have e2 := ha i e
 have hx' : Except.ok (ε := Nat) (r.L.getD i tok0, i) = .ok (x, j) := hx
 simp only [Except.ok.injEq, Prod.mk.injEq] at hx'
 rw [e2]
 exact hx'.1
theorem is_r (r : Rdr) (σ : Except Nat Nat) (s : Bool) (sg : ByteArray) (w : World) (h : RrAt r σ s w) (hK : Known r.L) (hk : sg.toList ∈ knownL) :
  Calls Tryz.prog 63 #[.pointer (some ⟨r.b, 0, none⟩), .string sg] w fun e w' => ∃ b : Bool, e = .returned (.bool b) ∧ RrAt r (after (isM r sg) σ) s w' ∧ Mv r w w' ∧ Got (isM r sg) σ b ∧ ∀ k, σ = .error k → b = false := by
 obtain ⟨a, bad, hin, hd, ha⟩ := h.in_
 have hsg := hK.sign hin.lt hk
 refine (rIs_any r a bad s sg w hin).mono ?_
 rintro e w' ⟨rfl, hb⟩
 refine ⟨_, rfl, by rw [after_is]; exact h.below hb, Mv.of_below hb, fun i x j e hx => ?_, fun k e => ?_⟩
 ·have e2 := ha i e
  subst e
  have hx' : Except.ok (ε := Nat) (isMark r i sg, i) = .ok (x, j) := hx
  simp only [Except.ok.injEq, Prod.mk.injEq] at hx'
  rw [hd, hsg, e2, ← hx'.1]
  rfl
 ·subst e
  rw [hd]
  rfl
theorem ok_r (r : Rdr) (σ : Except Nat Nat) (s : Bool) (w : World) (h : RrAt r σ s w) :
  Calls Tryz.prog 34 #[.pointer (some ⟨r.b, 0, none⟩)] w fun e w' => ∃ b : Bool, e = .returned (.bool b) ∧ w' = w ∧ ((b = true ∧ ∃ i, σ = .ok i) ∨ (b = false ∧ ∃ k, σ = .error k)) := by
 obtain ⟨a, bad, hin, hd, ha⟩ := h.in_
 refine (rOk_any r a bad s w hin).mono ?_
 rintro e w' ⟨rfl, rfl⟩
 refine ⟨_, rfl, rfl, ?_⟩
 cases σ with
 | ok i => exact .inl ⟨hd, i, rfl⟩
 | error k => exact .inr ⟨hd, k, rfl⟩
theorem leaf_r {r : Rdr} {σ : Except Nat Nat} {s : Bool} (k : Int) (t : ByteArray) (a : Int) (p : Option Addr) (n cap : Nat) (w : World) (h : RrAt r σ s w) :
  Calls Tryz.prog 58 #[.int .i64 k, .string t, .int .i64 a, .slice p n cap] w fun e w' => e = .returned (.agg (ndC ⟨k, t, a, p, n, cap⟩)) ∧ RrAt r σ s w' ∧ Mv r w w' :=
 (rLeaf_any k t a p n cap w).mono fun e w' ⟨h1, h2⟩ => ⟨h1, h.below h2, Mv.of_below h2⟩
-- where a rule stands
structure St (r : Rdr) (w0 : World) (σ : Except Nat Nat) (s : Bool) (W : World) : Prop where
 rr : RrAt r σ s W
 mv : Mv r w0 W
 res : ResAt w0 W
 rb : r.b < w0.heap.size
theorem St.on {r : Rdr} {w0 : World} {σ σ' : Except Nat Nat} {s : Bool} {W W' : World} (h : St r w0 σ s W) (hr : RrAt r σ' s W') (hm : Mv r W W') : St r w0 σ' s W' := ⟨hr, h.mv.trans hm, h.res.mv hm h.rb, h.rb⟩
theorem St.start {r : Rdr} {w0 : World} {σ : Except Nat Nat} {s : Bool} (h : RrAt r σ s w0) : St r w0 σ s (w0.alloc (.cells #[.int .i64 0, .string ⟨#[]⟩, .int .i64 0, .slice none 0 0] 40)) :=
 ⟨h.below (boxB w0 _), Mv.of_below (boxB w0 _), ResAt.start w0, h.rb⟩
/-- the result's variable gets its node -/
theorem St.ret {r : Rdr} {w0 : World} {σ : Except Nat Nat} {s : Bool} {W : World} {q : Raw} {t : Tree} (h : St r w0 σ s W) (ht : IsT (fun b => w0.heap.size < b) W q t) :
  (((((W.setCell ⟨w0.heap.size, 0, none⟩ (.int .i64 q.kind)).setCell ⟨w0.heap.size, 1, none⟩ (.string q.text)).setCell ⟨w0.heap.size, 2, none⟩ (.int .i64 q.at_)).setCell ⟨w0.heap.size, 3, none⟩ (.slice q.p q.n q.cap)).heap[w0.heap.size]? = some (.cells (ndC q) 40 (0, 0))) ∧
  IsT (fun b => w0.heap.size ≤ b) ((((W.setCell ⟨w0.heap.size, 0, none⟩ (.int .i64 q.kind)).setCell ⟨w0.heap.size, 1, none⟩ (.string q.text)).setCell ⟨w0.heap.size, 2, none⟩ (.int .i64 q.at_)).setCell ⟨w0.heap.size, 3, none⟩ (.slice q.p q.n q.cap)) q t ∧
  RrAt r σ s ((((W.setCell ⟨w0.heap.size, 0, none⟩ (.int .i64 q.kind)).setCell ⟨w0.heap.size, 1, none⟩ (.string q.text)).setCell ⟨w0.heap.size, 2, none⟩ (.int .i64 q.at_)).setCell ⟨w0.heap.size, 3, none⟩ (.slice q.p q.n q.cap)) ∧
  Mv r w0 ((((W.setCell ⟨w0.heap.size, 0, none⟩ (.int .i64 q.kind)).setCell ⟨w0.heap.size, 1, none⟩ (.string q.text)).setCell ⟨w0.heap.size, 2, none⟩ (.int .i64 q.at_)).setCell ⟨w0.heap.size, 3, none⟩ (.slice q.p q.n q.cap)) := by
 have key : ∀ (W : World) (k : Nat) (v : Value), But (fun a => a.block = w0.heap.size) W (W.setCell ⟨w0.heap.size, k, none⟩ v) := fun W k v => But.setCell W _ v rfl
 have bb := (((key W 0 (.int .i64 q.kind)).trans (key _ 1 (.string q.text))).trans (key _ 2 (.int .i64 q.at_))).trans (key _ 3 (.slice q.p q.n q.cap))
 have hrb := h.rb
 have mm := But.setCell_new (But.setCell_new (But.setCell_new (But.setCell_new h.mv ⟨w0.heap.size, 0, none⟩ (.int .i64 q.kind) (Nat.le_refl _)) ⟨w0.heap.size, 1, none⟩ (.string q.text) (Nat.le_refl _)) ⟨w0.heap.size, 2, none⟩ (.int .i64 q.at_) (Nat.le_refl _)) ⟨w0.heap.size, 3, none⟩ (.slice q.p q.n q.cap) (Nat.le_refl _)
 exact ⟨heap_setCell_same _ _ _ _ _ _ (heap_setCell_same _ _ _ _ _ _ (heap_setCell_same _ _ _ _ _ _ (heap_setCell_same _ _ _ _ _ _ h.res.z))), (ht.but bb (fun a e q => by have e' : a.block = w0.heap.size := e; omega)).mono (fun b q => Nat.le_of_lt q), h.rr.keep bb (fun x e => by have e' : x.block = w0.heap.size := e; omega), mm⟩
end Go.Proofs.YtgcaeimlmkkeoaaGreat
namespace Go.Proofs.YtgcaeimlmkkeoaaGreat
open Go Go.RowKit
theorem known_of {sg : ByteArray} (h : sg.data.toList ∈ knownL) : sg.toList ∈ knownL := by rw [ByteArray.toList_eq]; exact h
theorem St.up {r : Rdr} {w0 : World} {σ : Except Nat Nat} {s : Bool} {W : World} (h : St r w0 σ s W) : w0.heap.size < W.heap.size := lt_heap h.res.z
theorem Due.post {r : Rdr} {P Q : PM Tree} {σ0 σ : Except Nat Nat} {s : Bool} {w W : World} {q : Raw} {t : Tree} (h : Due P σ0 Q σ) (hg : Got Q σ t) (hist : IsT (fun b => w.heap.size ≤ b) W q t) (hrr : RrAt r (after Q σ) s W) (hmv : Mv r w W) : RrPost r P σ0 s w (.returned (.agg (ndC q))) W :=
 ⟨q, t, rfl, hist, by rw [h.st]; exact hrr, hmv, h.gt _ hg⟩
theorem Due.postP {r : Rdr} {P : PM Tree} {σ0 σ : Except Nat Nat} {s : Bool} {w W : World} {q : Raw} {t : Tree} (h : Due P σ0 (pureM t) σ) (hist : IsT (fun b => w.heap.size ≤ b) W q t) (hrr : RrAt r σ s W) (hmv : Mv r w W) : RrPost r P σ0 s w (.returned (.agg (ndC q))) W :=
 h.post (Got.pure _ _) hist (by rw [after_pure]; exact hrr) hmv
theorem Due.postE {r : Rdr} {P Q : PM Tree} {σ0 : Except Nat Nat} {k : Nat} {s : Bool} {w W : World} {q : Raw} {t : Tree} (h : Due P σ0 Q (.error k)) (hist : IsT (fun b => w.heap.size ≤ b) W q t) (hrr : RrAt r (.error k) s W) (hmv : Mv r w W) : RrPost r P σ0 s w (.returned (.agg (ndC q))) W :=
 h.post (Got.err _ _ _) hist hrr hmv
/-- the type behind an arrow -/
def resultR (r : Rdr) (T : PM Tree) : PM Tree := bindM (tookM r ⟨#[45, 62]⟩) fun b => match b with
 | true => T
 | false => bindM (hereM r) fun a => ndM 15 ⟨#[117, 110, 105, 116]⟩ a []
theorem resultR_eq (r : Rdr) (T : PM Tree) : resultR r T = resultP r T := by
 funext i
 unfold resultR resultP bindM tookM
 by_cases hm : isMark r i ⟨#[45, 62]⟩ = true
 ·rw [if_pos hm, if_pos hm]
 ·rw [if_neg hm, if_neg hm]; rfl
set_option maxRecDepth 100000 in
set_option maxHeartbeats 4000000 in
theorem rResult_any (r : Rdr) (σ : Except Nat Nat) (s : Bool) (T : PM Tree) (w : World) (h : RrAt r σ s w) (hE : EndAt r) (hK : Known r.L) (hT : ∀ σ1 w1, RrAt r σ1 s w1 → Calls Tryz.prog 41 #[.pointer (some ⟨r.b, 0, none⟩), .int .i64 1] w1 (RrPost r T σ1 s w1)) :
  Calls Tryz.prog 62 #[.pointer (some ⟨r.b, 0, none⟩)] w (RrPost r (resultR r T) σ s w) := by
 have HT := Lib.hid (St.start h)
 have HE := Lib.hid hE
 have HK := Lib.hid hK
 have HTY := Lib.hid hT
 obtain ⟨P, hP⟩ : ∃ P, (resultR r T) = P := ⟨_, rfl⟩
 have hd : Due P σ (resultR r T) σ := by rw [hP]; exact Due.refl _ _
 rw [hP]
 clear hP
 unfold resultR at hd
 have HD := Lib.hid hd
 clear h hE hK hd hT
 go_enter Tryz.func62, Tryz.ntmps62
 go_wp2_with fail
 generalize w.alloc (.cells #[.int .i64 0, .string ⟨#[]⟩, .int .i64 0, .slice none 0 0] 40) = w1 at *
 refine (take_r r _ s ⟨#[45, 62]⟩ _ HT.out.rr HE.out HK.out (by decide) (known_of (by decide))).mono ?_
 rintro e w2 ⟨b, rfl, hr, hm, hg, hz⟩
 replace HD := Lib.hid (HD.out.step hg)
 replace HT := Lib.hid (HT.out.on hr hm)
 clear hr hm hg
 cases b
 ·go_wp2_with fail
  refine (here_r r _ s _ HT.out.rr).mono ?_
  rintro e w3 ⟨a, rfl, hr, hm, hg⟩
  replace HD := Lib.hid (HD.out.step hg)
  replace HT := Lib.hid (HT.out.on hr hm)
  clear hr hm hg
  go_wp2_with fail
  refine (leaf_r 15 ⟨#[117, 110, 105, 116]⟩ a none 0 0 _ HT.out.rr).mono ?_
  rintro e w4 ⟨rfl, hr, hm⟩
  replace HT := Lib.hid (HT.out.on hr hm)
  clear hr hm
  have HW := Lib.hid (HT.out.ret (q := ⟨15, ⟨#[117, 110, 105, 116]⟩, a, none, 0, 0⟩) (IsT.leaf _ _ _ _ _))
  obtain ⟨d0, d1, d2, d3, f0⟩ := HT.out.res.cells
  try unfold ndC
  go_wp2_with fail
  obtain ⟨hcell, hist, hrr, hmv⟩ := HW.out
  exact bodyPost_ret (results_cellT rfl _ _ _ ⟨w.heap.size, 0, none⟩ _ rfl (load_node _ _ ⟨15, ⟨#[117, 110, 105, 116]⟩, a, none, 0, 0⟩ hcell)) rfl (HD.out.postP hist hrr hmv)
 ·go_wp2_with fail
  refine (HTY.out _ _ HT.out.rr).mono ?_
  rintro e w3 ⟨q, t, rfl, ht, hr, hm, hg⟩
  have HI := Lib.hid (ht.mono (fun b hb => Nat.lt_of_lt_of_le HT.out.up hb))
  have HG := Lib.hid hg
  replace HT := Lib.hid (HT.out.on hr hm)
  clear hr hm hg ht
  have HW := Lib.hid (HT.out.ret (q := q) (HI.out))
  obtain ⟨d0, d1, d2, d3, f0⟩ := HT.out.res.cells
  try unfold ndC
  go_wp2_with fail
  obtain ⟨hcell, hist, hrr, hmv⟩ := HW.out
  exact bodyPost_ret (results_cellT rfl _ _ _ ⟨w.heap.size, 0, none⟩ _ rfl (load_node _ _ q hcell)) rfl (HD.out.post HG.out hist hrr hmv)
end Go.Proofs.YtgcaeimlmkkeoaaGreat
namespace Go.Proofs.YtgcaeimlmkkeoaaGreat
open Go Go.RowKit
theorem RrIn.grown {r : Rdr} {a : Nat} {bad : Int} {s : Bool} {w w' : World} {row : Option Nat} (h : RrIn r a bad s w) (hg : w.grownBy w' row) (hr : ∀ g, row = some g → r.b < g) : RrIn r a bad s w' := by
 have hb := lt_heap h.cells
 have key : ∀ k, k ≤ r.b → w'.heap[k]? = w.heap[k]? := fun k hk => hg.block k (by omega) (fun e => by have := hr k e.symm; omega)
 refine ⟨by rw [key r.b (Nat.le_refl _)]; exact h.cells, ?_, h.away, h.lt, h.few, h.low⟩
 obtain ⟨hn, h2, h3, h4⟩ := h.toks.lies
 refine ⟨r.p, r.cap, rfl, h2, h3, fun h0 => ?_⟩
 obtain ⟨b, off, e, hc⟩ := h4 h0
 exact ⟨b, off, e, fun j v hv => by rw [World.cell?_of_block (key b (Nat.le_of_lt (h.away b off e)))]; exact hc j v hv⟩
theorem RrAt.grown {r : Rdr} {σ : Except Nat Nat} {s : Bool} {w w' : World} {row : Option Nat} (h : RrAt r σ s w) (hg : w.grownBy w' row) (hr : ∀ g, row = some g → r.b < g) : RrAt r σ s w' := by
 cases σ with
 | ok i => exact RrIn.grown h hg hr
 | error k => obtain ⟨h1, a, h2⟩ := h; exact ⟨h1, a, h2.grown hg hr⟩
theorem RrAt.mv {r : Rdr} {σ : Except Nat Nat} {s : Bool} {w w' : World} (h : RrAt r σ s w) (hb : But (fun _ => False) w w') : RrAt r σ s w' := h.keep hb (fun _ q => q.elim)
theorem same_grown {w w' : World} {row : Option Nat} (hg : w.grownBy w' row) : Same (fun a => row = some a.block) w w' := fun a v hc hm => by
 rw [World.cell?_of_block (hg.block a.block (World.block_lt_of_cell? w _ hc) (fun e => hm e.symm))]
 exact hc
theorem Nodes.but0 {B : Nat} {w w' : World} {v : Value} {ts : List Tree} (h : Nodes B w v ts) (hm : But (fun _ => False) w w') : Nodes B w' v ts := by
 obtain ⟨R, ⟨h1, h2⟩, hl, ht⟩ := h
 refine ⟨R, ⟨h1, ?_⟩, hl, fun i a c => (ht i a c).but hm (fun _ q => q.elim)⟩
 rcases h2 with h2 | ⟨g, cap, cur, hv, hg, hh, rest⟩
 ·exact .inl h2
 ·exact .inr ⟨g, cap, cur, hv, hg, by rw [hm.block g (lt_heap hh) (fun _ _ q => q)]; exact hh, rest⟩
theorem Nodes.own {B : Nat} {w : World} {v : Value} {ts : List Tree} (h : Nodes B w v ts) : ∀ g, v.ownBlock = some g → B ≤ g ∧ g < w.heap.size := by
 obtain ⟨R, ho, _⟩ := h
 exact ho.lt
/-- what the operations of a region turn: ic calls a rule, ia puts a node behind the list v of one's own -/
def Sx (r : Rdr) (ob : Option Nat) (ic ia : Nat) (i : Nat) (x y : World) : Prop := if i = ic then Mv r x y else if i = ia then x.grownBy y ob else But (fun _ => False) x y
/-- what stands all along -/
structure InvX (r : Rdr) (w0 : World) (ob : Option Nat) (wr W : World) : Prop where
 mv : Mv r w0 W
 size : wr.heap.size ≤ W.heap.size
 block : ∀ k, k < wr.heap.size → k ≠ r.b → ob ≠ some k → W.heap[k]? = wr.heap[k]?
theorem InvX.step {r : Rdr} {w0 : World} {ob : Option Nat} {wr x y : World} {ic ia : Nat} (i : Nat) (hs : Sx r ob ic ia i x y) (h : InvX r w0 ob wr x) (hob : ∀ g, ob = some g → w0.heap.size ≤ g) : InvX r w0 ob wr y := by
 unfold Sx at hs
 split at hs
 ·exact ⟨h.mv.trans hs, Nat.le_trans h.size hs.size, fun k hk h1 h2 => (But.block hs k (by have := h.size; omega) (fun a ha e => h1 (by have e' : a.block = r.b := e; omega))).trans (h.block k hk h1 h2)⟩
 ·split at hs
  ·exact ⟨h.mv.grown hs hob, Nat.le_trans h.size hs.size, fun k hk h1 h2 => (hs.block k (by have := h.size; omega) (fun e => h2 e.symm)).trans (h.block k hk h1 h2)⟩
  ·exact ⟨h.mv.trans (hs.mono (fun _ q => q.elim)), Nat.le_trans h.size hs.size, fun k hk h1 h2 => (hs.block k (by have := h.size; omega) (fun _ _ q => q)).trans (h.block k hk h1 h2)⟩
theorem InvX.start {r : Rdr} {w0 wr : World} {ob : Option Nat} (hm : Mv r w0 wr) : InvX r w0 ob wr wr.drew := ⟨hm.trans (But.drew wr), Nat.le_refl _, fun _ _ _ _ => rfl⟩
theorem InvX.box {r : Rdr} {w0 wr W : World} {ob : Option Nat} {g : Nat} {q : Raw} (h : InvX r w0 ob wr W) (hb : BoxAt r w0 g q wr) (hg : ob ≠ some g) : BoxAt r w0 g q W :=
 ⟨by rw [h.block g (lt_heap hb.z) (by have := hb.new; have := hb.old; omega) hg]; exact hb.z, hb.new, hb.old⟩
/-- what the rule and the list lean on -/
def F0x (r : Rdr) (σ : Except Nat Nat) (s : Bool) (B : Nat) (v : Value) (ts : List Tree) (ic ia : Nat) : Facts := fun k W => (k = ic → RrAt r σ s W) ∧ (k = ia → Nodes B W v ts)
theorem F0x.keeps {r : Rdr} {σ : Except Nat Nat} {s : Bool} {B : Nat} {v : Value} {ts : List Tree} {ic ia : Nat} (hB : r.b < B) (hv : ∀ g, v.ownBlock = some g → B ≤ g) : KeepsS (Sx r v.ownBlock ic ia) (F0x r σ s B v ts ic ia) := by
 intro i k x y hk hs hf
 unfold Sx at hs
 refine ⟨fun e => ?_, fun e => ?_⟩
 ·split at hs
  ·omega
  ·split at hs
   ·exact (hf.1 e).grown hs (fun g eg => by have := hv g eg; omega)
   ·exact (hf.1 e).mv hs
 ·split at hs
  ·exact (hf.2 e).mv hs hB
  ·split at hs
   ·omega
   ·exact (hf.2 e).but0 hs
theorem F0x.start {r : Rdr} {σ : Except Nat Nat} {s : Bool} {B : Nat} {v : Value} {ts : List Tree} {ic ia : Nat} {w : World} (h : RrAt r σ s w) (hn : Nodes B w v ts) : ∀ k, F0x r σ s B v ts ic ia k w.drew :=
 fun k => ⟨fun _ => h.mv (But.drew w), fun _ => hn.but0 (But.drew w)⟩
theorem Nodes.none (B : Nat) (w : World) : Nodes B w (.slice none 0 0) [] := ⟨[], OwnL.isNil _ _ _ _, rfl, fun i h => absurd h (by simp)⟩
section
variable {r : Rdr} {ob : Option Nat} {ic ia k : Nat} {wr : World} {P : Program} {Pn : Ending → World → Prop} {σ : Except Nat Nat} {s : Bool} {p : PM Tree}
/-- trees in new blocks stay -/
theorem Sx.tree {A : Nat → Prop} {i : Nat} {x y : World} {q : Raw} {t : Tree} (hs : Sx r ob ic ia i x y) (h : IsT A x q t) (hA : ∀ b, A b → b ≠ r.b ∧ ob ≠ some b) : IsT A y q t := by
 unfold Sx at hs
 split at hs
 ·exact h.but hs (fun a e q => (hA _ q).1 e)
 ·split at hs
  ·exact h.same (same_grown hs) (fun a e q => (hA _ q).2 e)
  ·exact h.but hs (fun _ q => q.elim)
theorem Sx.list {A : Nat → Prop} {i : Nat} {x y : World} {v : Value} {l : List Tree} (hs : Sx r ob ic ia i x y) (h : IsTs A x v l) (hA : ∀ b, A b → b ≠ r.b ∧ ob ≠ some b) : IsTs A y v l := by
 obtain ⟨p, n, cap, R, e, h1, h2, h3, h4, h5⟩ := h
 refine ⟨p, n, cap, R, e, ?_, h2, h3, h4, fun i a b => Sx.tree hs (h5 i a b) hA⟩
 unfold Sx at hs
 split at hs
 ·exact SlIs.butN h1 hs.same (fun b o i e h0 q => (hA _ (h3 b o e h0)).1 q)
 ·split at hs
  ·exact SlIs.butN h1 (same_grown hs) (fun b o i e h0 q => (hA _ (h3 b o e h0)).2 q)
  ·exact SlIs.butN h1 hs.same (fun b o i e h0 q => q)
theorem Sx.size {i : Nat} {x y : World} (hs : Sx r ob ic ia i x y) : x.heap.size ≤ y.heap.size := by
 unfold Sx at hs
 split at hs
 ·exact hs.size
 ·split at hs <;> exact hs.size
-- kinds
/-- the node of the rule, and where the reading is behind it -/
def tyCall (r : Rdr) (wr : World) (p : PM Tree) (σ : Except Nat Nat) (s : Bool) : TyV := ⟨Raw × Tree, ⟨(default, default)⟩, fun x => .agg (ndC x.1), fun x W => IsT (fun b => wr.heap.size ≤ b) W x.1 x.2 ∧ RrAt r (after p σ) s W ∧ Got p σ x.2⟩
/-- nodes in a row -/
def tyRow (wr : World) (n : Nat) (G : List Tree → Prop) : TyV := ⟨Nat × List Tree, ⟨(0, [])⟩, fun x => .slice (some ⟨x.1, 0, none⟩) n n, fun x W => IsTs (fun b => wr.heap.size ≤ b) W (.slice (some ⟨x.1, 0, none⟩) n n) x.2 ∧ G x.2⟩
/-- a list of one's own -/
def tyList (B : Nat) (ob : Option Nat) (wr : World) (G : List Tree → Prop) : TyV := ⟨Value × List Tree, ⟨(undef, [])⟩, fun x => x.1, fun x W => Nodes B W x.1 x.2 ∧ G x.2 ∧ (x.1.ownBlock = ob ∨ ∃ g, x.1.ownBlock = some g ∧ wr.heap.size ≤ g)⟩
theorem tyCall_f (q : Raw) (t : Tree) : (tyCall r wr p σ s).f (q, t) = .agg (ndC q) := rfl
theorem tyRow_f (n : Nat) (G : List Tree → Prop) (g : Nat) (l : List Tree) : (tyRow wr n G).f (g, l) = .slice (some ⟨g, 0, none⟩) n n := rfl
theorem tyList_f (B : Nat) (G : List Tree → Prop) (v : Value) (l : List Tree) : (tyList B ob wr G).f (v, l) = v := rfl
theorem tyCall_good (hr : r.b < wr.heap.size) (ho : ∀ g, ob = some g → r.b < g ∧ g < wr.heap.size) : GoodS (Sx r ob ic ia) ic (tyCall r wr p σ s) := by
 intro j x w w' hj hs ⟨h1, h2, h3⟩
 refine ⟨Sx.tree hs h1 (fun b hb => ⟨by omega, fun e => by have := (ho b e).2; omega⟩), ?_, h3⟩
 unfold Sx at hs
 rw [if_neg hj] at hs
 split at hs
 ·exact h2.grown hs (fun g e => (ho g e).1)
 ·exact h2.mv hs
theorem tyRow_good {n : Nat} {G : List Tree → Prop} (hr : r.b < wr.heap.size) (ho : ∀ g, ob = some g → r.b < g ∧ g < wr.heap.size) : GoodS (Sx r ob ic ia) k (tyRow wr n G) := by
 intro j x w w' hj hs ⟨h1, h2⟩
 exact ⟨Sx.list hs h1 (fun b hb => ⟨by omega, fun e => by have := (ho b e).2; omega⟩), h2⟩
theorem tyList_good {B : Nat} {G : List Tree → Prop} (hB : r.b < B) : GoodS (Sx r ob ic ia) ia (tyList B ob wr G) := by
 intro j x w w' hj hs ⟨h1, h2, h3⟩
 refine ⟨?_, h2, h3⟩
 unfold Sx at hs
 by_cases hjc : j = ic
 ·rw [if_pos hjc] at hs
  exact h1.mv hs hB
 ·rw [if_neg hjc, if_neg hj] at hs
  exact h1.but0 hs
/-- an operation that only reads -/
theorem sx_is {v : Value} {w : World} (h1 : k ≠ ic) (h2 : k ≠ ia) : oneUpon P (Sx r ob ic ia k) Pn (tvIs v) w (.ok (.value v) w) := by
 refine ⟨?_, (), rfl, trivial⟩
 unfold Sx
 rw [if_neg h1, if_neg h2]
 exact But.refl _ _
theorem sx_call {w0 W : World} {g : FuncId} {args : Array Value} (hI : InvX r w0 ob wr W) (hc : Calls P g args W (RrPost r p σ s W)) : oneUpon P (Sx r ob ic ia ic) Pn (tyCall r wr p σ s) W (.ok (.enter g args) W) := by
 refine hc.mono ?_
 rintro e w' ⟨q, t, rfl, h1, h2, h3, h4⟩
 refine .inl ⟨(q, t), rfl, ?_, h1.mono (fun b hb => Nat.le_trans hI.size hb), h2, h4⟩
 unfold Sx
 rw [if_pos rfl]
 exact h3
/-- nodes are laid in a row -/
theorem sx_row {w0 W : World} {n : Nat} {G : List Tree → Prop} {cs : Array Value} {ty : TypeId} (qs : List Raw) (l : List Tree) (hI : InvX r w0 ob wr W) (h1 : k ≠ ic) (h2 : k ≠ ia) (hcs : cs.toList = rawEnc.all qs) (hn : n = qs.length) (hl : qs.length = l.length) (h0 : 0 < n) (hm : n ≤ maxLen)
  (hT : ∀ i (h1 : i < qs.length) (h2 : i < l.length), IsT (fun b => wr.heap.size ≤ b) W qs[i] l[i]) (hG : G l) :
  oneUpon P (Sx r ob ic ia k) Pn (tyRow wr n G) W (.ok (.value (.slice (some ⟨W.heap.size, 0, none⟩) n n)) (W.alloc (.cells cs ty))) := by
 refine ⟨?_, (W.heap.size, l), rfl, IsTs.rowAt cs qs l (heap_alloc_new W _) hcs hn hl h0 hm hI.size (fun i a b => (hT i a b).later (boxB W _)), hG⟩
 unfold Sx
 rw [if_neg h1, if_neg h2]
 exact But.alloc W _
end
end Go.Proofs.YtgcaeimlmkkeoaaGreat
namespace Go.Proofs.YtgcaeimlmkkeoaaGreat
open Go Go.RowKit
theorem sx_push {r : Rdr} {ic ia : Nat} {w0 wr W : World} {Pn : Ending → World → Prop} {B : Nat} {v : Value} {ts l : List Tree} {g' : Nat} {G : List Tree → Prop} {ops : Array Oper} {o : Oper} {a : Act}
  (hgd : o.guard = none) (s x : Operand) (ho : o.op = .call { callee := .builtin .append, args := #[s, x], argTypes := #[36, 36] })
  (hs : a.eval s = v) (hx : a.eval x = .slice (some ⟨g', 0, none⟩) 1 1) (hI : InvX r w0 v.ownBlock wr W) (hic : ia ≠ ic)
  (hN : Nodes B W v ts) (hB : B ≤ wr.heap.size) (hob : ∀ g, v.ownBlock = some g → g < wr.heap.size) (hl : IsTs (fun b => wr.heap.size ≤ b) W (.slice (some ⟨g', 0, none⟩) 1 1) l) (hlen : ts.length ≤ 100000) (hG : G (ts ++ l)) :
  oneAt Tryz.prog ops (Sx r v.ownBlock ic ia ia) Pn (tyList B v.ownBlock wr G) o a W := by
 obtain ⟨i0, hi, hz0, hz1, hz2⟩ := info_parts infoTree
 obtain ⟨R, hown, hRl, hT⟩ := hN
 obtain ⟨p', n', cap', Rl, e, hsl, _, _, hll, hlT⟩ := hl
 cases e
 obtain ⟨hn1, _, _, hlies⟩ := hsl.lies
 obtain ⟨b, off, e, hcells⟩ := hlies (by omega)
 injection e with e
 injection e with e1 e2 _
 subst e1
 subst e2
 have hsz := hI.size
 obtain ⟨q, rfl⟩ : ∃ q, Rl = [q] := by
  cases Rl with
  | nil => simp at hn1
  | cons q R => cases R with
   | nil => exact ⟨q, rfl⟩
   | cons _ _ => simp at hn1
 have cell : ∀ j u, (rawEnc.cells q)[j]? = some u → W.cell? ((⟨g', 0, none⟩ : Addr).add j) = some u := by
  intro j u hu
  rw [add_lit]
  refine hcells j u ?_
  rw [Enc.all_cons, Enc.all_nil, List.append_nil]
  exact hu
 obtain ⟨v', w', hr, g1, g2, _, g4⟩ := run_append_own_at (P := Tryz.prog) W B 36 o.type 40 i0 _ 4 56 Tryz.underlying36 hi hz0 hz1 hz2 rfl (by decide) v R.length (rawEnc.all R) hown ⟨g', 0, none⟩ 1 1 (rawEnc.cells q) rfl cell (rawEnc.one q) (by unfold maxLen; omega) (by omega) (by omega)
 have hown' : OwnL rawEnc 40 w' B v' (R ++ [q]) := by
  unfold OwnL
  rw [List.length_append, rawEnc.all_append, rawEnc.all_cons, rawEnc.all_nil, List.append_nil]
  exact g1
 have hobt := hown.lt
 have keep : ∀ {A : Nat → Prop} {qq : Raw} {tt : Tree}, IsT A W qq tt → (∀ b, A b → B ≤ b ∧ v.ownBlock ≠ some b) → IsT (fun b => B ≤ b ∧ v'.ownBlock ≠ some b) w' qq tt := by
  intro A qq tt h hA
  refine (h.old.same (same_grown g2) (fun a e q => (hA _ q.1).2 e)).mono (fun b hb => ⟨(hA b hb.1).1, fun e => ?_⟩)
  rcases g4 with g4 | g4
  ·rw [g4] at e; exact (hA b hb.1).2 e
  ·rw [g4] at e
   have : W.heap.size = b := by simpa using e
   have := hb.2
   omega
 have hnodes : Nodes B w' v' (ts ++ l) := by
  have hl1 : l.length = 1 := by rw [← hll]; rfl
  refine ⟨R ++ [q], hown', by simp [hRl, hl1], fun j h1 h2 => ?_⟩
  by_cases hj : j < R.length
  ·rw [List.getElem_append_left hj, List.getElem_append_left (by omega)]
   exact keep (hT j hj (by omega)) (fun b hb => hb)
  ·have hjl : j - ts.length = 0 := by simp at h1; omega
   have e1 : (R ++ [q])[j] = q := by rw [List.getElem_append_right (by omega)]; simp
   have e2 : (ts ++ l)[j] = l[0] := by rw [List.getElem_append_right (by omega)]; simp only [hjl]
   rw [e1, e2]
   have := hlT 0 (by simp) (by omega)
   exact keep this (fun b hb => ⟨by omega, fun e => by have := hob b e; omega⟩)
 have hw : Region.wanted o (yielded ops a.tmps) = true := by unfold Region.wanted; rw [hgd]
 unfold oneAt
 rw [if_pos hw]
 have hrun : (execOp a.eval o).run Tryz.prog W = .ok (.value v') w' := by
  unfold execOp
  simp only [ho, resolve, invoke, builtin, Sem.run_bind, Sem.run_pure, Result.andThen_ok, List.map_toArray, List.map_cons, List.map_nil, hs, hx, hr]
 rw [hrun]
 refine ⟨?_, (v', ts ++ l), rfl, hnodes, hG, ?_⟩
 ·unfold Sx
  rw [if_neg hic, if_pos rfl]
  exact g2
 ·rcases g4 with g4 | g4
  ·exact .inl g4
  ·exact .inr ⟨_, g4, hsz⟩
/-- a variable that holds a node whose list is one's own and grows -/
structure KBox (r : Rdr) (w0 : World) (g : Nat) (q : Raw) (t : Tree) (W : World) : Prop where
 box : BoxAt r w0 g q W
 nodes : Nodes (g + 1) W (.slice q.p q.n q.cap) t.kids
 kd : q.kind = t.kind
 tx : q.text = t.text
 pl : q.at_ = t.at_
theorem KBox.on {r : Rdr} {w0 : World} {g : Nat} {q : Raw} {t : Tree} {W W' : World} (h : KBox r w0 g q t W) (hm : Mv r W W') : KBox r w0 g q t W' :=
 ⟨h.box.mvB hm h.box.old, h.nodes.mv hm (by have := h.box.new; have := h.box.old; omega), h.kd, h.tx, h.pl⟩
theorem KBox.first {r : Rdr} {w0 : World} {σ : Except Nat Nat} {s : Bool} {W : World} (k : Int) (t : ByteArray) (a : Int) (h : St r w0 σ s W) :
  KBox r w0 W.heap.size ⟨k, t, a, none, 0, 0⟩ (.mk k t a []) (W.alloc (.cells (ndC ⟨k, t, a, none, 0, 0⟩) 40)) :=
 ⟨⟨heap_alloc_new W _, lt_heap h.res.z, h.rb⟩, Nodes.none _ _, rfl, rfl, rfl⟩
theorem KBox.tree {r : Rdr} {w0 : World} {g : Nat} {q : Raw} {t : Tree} {W : World} (h : KBox r w0 g q t W) : IsT (fun b => w0.heap.size < b) W q t := by
 obtain ⟨k, s, a, l⟩ := t
 obtain ⟨k', s', a', p, n, cap⟩ := q
 have h1 : k' = k := h.kd
 have h2 : s' = s := h.tx
 have h3 : a' = a := h.pl
 subst h1
 subst h2
 subst h3
 have hg := h.box.new
 exact (IsT.node _ _ _ h.nodes.list).mono (fun b hb => by have hb' : g + 1 ≤ b := hb; omega)
theorem KBox.own {r : Rdr} {w0 : World} {g : Nat} {q : Raw} {t : Tree} {W : World} (h : KBox r w0 g q t W) : ∀ b, (Value.slice q.p q.n q.cap).ownBlock = some b → r.b < b ∧ b < W.heap.size ∧ g < b ∧ w0.heap.size ≤ b := fun b e => by
 obtain ⟨h1, h2⟩ := h.nodes.own b e
 have := h.box.new
 have := h.box.old
 exact ⟨by omega, h2, by omega, by omega⟩
/-- the list behind the region -/
theorem KBox.store {r : Rdr} {w0 : World} {g : Nat} {q : Raw} {t : Tree} {W W' : World} {p : Option Addr} {n cap : Nat} {ts : List Tree} (h : KBox r w0 g q t W) (hb : BoxAt r w0 g q W') (hn : Nodes (g + 1) W' (.slice p n cap) ts) :
  KBox r w0 g ⟨q.kind, q.text, q.at_, p, n, cap⟩ (.mk t.kind t.text t.at_ ts) (W'.setCell ⟨g, 3, none⟩ (.slice p n cap)) := by
 have key : But (fun a => a.block = g) W' (W'.setCell ⟨g, 3, none⟩ (.slice p n cap)) := But.setCell W' _ _ rfl
 refine ⟨⟨heap_setCell_same _ _ _ _ _ _ hb.z, hb.new, hb.old⟩, ?_, h.kd, h.tx, h.pl⟩
 obtain ⟨R, ⟨h1, h2⟩, hl, ht⟩ := hn
 refine ⟨R, ⟨h1, ?_⟩, hl, fun i a c => (ht i a c).but key (fun a e q => by have e' : a.block = g := e; have := q.1; omega)⟩
 rcases h2 with h2 | ⟨g', c', cur, hv, hg, hh, rest⟩
 ·exact .inl h2
 ·exact .inr ⟨g', c', cur, hv, hg, by rw [But.block key g' (lt_heap hh) (fun a ha e => by have e' : a.block = g := e; omega)]; exact hh, rest⟩
/-- a cell of a variable is written: all else stands -/
theorem St.poke {r : Rdr} {w0 : World} {σ : Except Nat Nat} {s : Bool} {W : World} (h : St r w0 σ s W) (g k : Nat) (v : Value) (hg : w0.heap.size < g) : St r w0 σ s (W.setCell ⟨g, k, none⟩ v) := by
 have key : But (fun a => a.block = g) W (W.setCell ⟨g, k, none⟩ v) := But.setCell W _ _ rfl
 have hrb := h.rb
 refine ⟨h.rr.keep key (fun x e => by have e' : x.block = g := e; omega), But.setCell_new h.mv _ _ (by show _ ≤ g; omega), ⟨?_⟩, h.rb⟩
 rw [But.block key w0.heap.size (lt_heap h.res.z) (fun a ha e => by have e' : a.block = g := e; omega)]
 exact h.res.z
theorem BoxAt.warm' {r : Rdr} {w W : World} {g : Nat} {q : Raw} (h : BoxAt r w g q W) : ∀ j, W.frozen? ⟨g, j, none⟩ = false := fun j => Lib.frozen_of_heap h.z j
/-- behind a region -/
theorem InvX.st {r : Rdr} {w0 : World} {σ σ' : Except Nat Nat} {s : Bool} {ob : Option Nat} {wr W : World} (h : InvX r w0 ob wr W) (hs : St r w0 σ s wr) (hr : RrAt r σ' s W) (hob : ∀ g, ob = some g → w0.heap.size < g) : St r w0 σ' s W :=
 ⟨hr, h.mv, ⟨by rw [h.block w0.heap.size (lt_heap hs.res.z) (by have := hs.rb; omega) (fun e => by have := hob _ e; omega)]; exact hs.res.z⟩, hs.rb⟩
theorem RrAt.self {r : Rdr} {σ : Except Nat Nat} {s : Bool} {w : World} (h : RrAt r σ s w) : w.cell? ⟨r.b, 3, none⟩ = some (.bool s) := by
 obtain ⟨a, bad, h⟩ := h.in2
 exact h.c.2.2.2.1
-- words, one after the other
def wordsR (r : Rdr) (k : ByteArray → PM Tree) (rest : PM Tree) : List ByteArray → PM Tree
 | [] => rest
 | w :: ws => bindM (tookM r w) fun b => match b with
  | true => k w
  | false => wordsR r k rest ws
/-- nodes with a mark between them -/
def manyM (r : Rdr) (sg : ByteArray) (part : PM Tree) : Nat → List Tree → PM (List Tree)
 | 0, _ => failM
 | f + 1, ts => bindM part fun t => bindM (tookM r sg) fun b => match b with
  | true => manyM r sg part f (ts ++ [t])
  | false => pureM (ts ++ [t])
theorem manyM_eq (r : Rdr) (sg : ByteArray) (part : PM Tree) : ∀ f ts i, manyM r sg part f ts i = match listP r sg part f i with | .error k => .error k | .ok (us, j) => .ok (ts ++ us, j)
 | 0, ts, i => rfl
 | f + 1, ts, i => by
  unfold manyM listP bindM tookM
  cases hp : part i with
  | error k => rfl
  | ok z =>
   obtain ⟨t, j⟩ := z
   dsimp only
   by_cases hm : isMark r j sg = true
   ·rw [if_pos hm, if_pos hm]
    show manyM r sg part f (ts ++ [t]) (j + 1) = _
    rw [manyM_eq r sg part f]
    cases listP r sg part f (j + 1) with
    | error k => rfl
    | ok y => obtain ⟨us, m⟩ := y; simp
   ·rw [if_neg hm, if_neg hm]
    rfl
theorem manyM_nil (r : Rdr) (sg : ByteArray) (part : PM Tree) (f : Nat) : manyM r sg part f [] = listP r sg part f := by
 funext i
 rw [manyM_eq]
 cases listP r sg part f i with
 | error k => rfl
 | ok y => obtain ⟨us, m⟩ := y; rfl
end Go.Proofs.YtgcaeimlmkkeoaaGreat
