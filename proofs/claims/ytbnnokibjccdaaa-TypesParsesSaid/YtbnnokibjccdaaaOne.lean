/-
  LAWS: a region that draws its order, whose last operations come in one forced order behind all others, and in whose head one call (the operation c) goes beside others that make memory at most: the call may turn what the others let be, and it may panic.
-/
import Derived.Test.YtbnnokibjccdaaaRelT
namespace Go.Proofs.Ytbnnokibjccdaaa
open Go
set_option linter.unusedVariables false

/-- what an operation may leave: the value f x for some x, of which φ x holds in the world behind it -/
structure TyV where
  α : Type
  inh : Nonempty α
  f : α → Value
  φ : α → World → Prop

section
variable {P : Program} {ops : Array Oper} {md : Region.Mode} {A C : World → World → Prop} {Inv : World → Prop} {Pn : Ending → World → Prop} {c : Nat} {T : Nat → TyV}

/-- the others' facts stand behind the call and behind the others; the call's own stand behind the others -/
def Good (A C : World → World → Prop) (c k : Nat) (t : TyV) : Prop := (∀ x w w', A w w' → t.φ x w → t.φ x w') ∧ (k ≠ c → ∀ x w w', C w w' → t.φ x w → t.φ x w')
def sel (A C : World → World → Prop) (c i : Nat) : World → World → Prop := if i = c then C else A

def oneUpon (P : Program) (L : World → World → Prop) (Pn : Ending → World → Prop) (t : TyV) (w : World) : Result Next → Prop
  | .ok (.value u) w' => L w w' ∧ ∃ x, u = t.f x ∧ t.φ x w'
  | .ok .skip w' => L w w' ∧ ∃ x, undef = t.f x ∧ t.φ x w'
  | .ok (.enter g args) w' => Calls P g args w' (fun e w'' => (∃ x, e = .returned (t.f x) ∧ L w w'' ∧ t.φ x w'') ∨ (∃ k, e = .panicked k ∧ Pn e w''))
  | _ => False
def oneAt (P : Program) (ops : Array Oper) (L : World → World → Prop) (Pn : Ending → World → Prop) (t : TyV) (o : Oper) (a : Act) (w : World) : Prop :=
  if Region.wanted o (yielded ops a.tmps) then oneUpon P L Pn t w ((execOp a.eval o).run P w) else ∃ x, undef = t.f x ∧ t.φ x w
/-- what an operation leans on: its own fact and those of the ones that it waits for -/
def leanO (md : Region.Mode) (o : Oper) (i : Nat) (F : Facts) (w : World) : Prop := F i w ∧ ∀ e ∈ o.after, Region.binds md e = true → F e.on w
def oneOp (P : Program) (md : Region.Mode) (ops : Array Oper) (A C : World → World → Prop) (Inv : World → Prop) (Pn : Ending → World → Prop) (c : Nat) (T : Nat → TyV) (i : Nat) (K : Facts → Act → Prop) (F : Facts) (a : Act) : Prop :=
  match ops[i]? with
  | none => K F a
  | some o => Good A C c i (T i) ∧ (∀ w, Inv w → leanO md o i F w → oneAt P ops (sel A C c i) Pn (T i) o a w) ∧ ∀ x, K (upd F i ((T i).φ x)) (a.put o.dst ((T i).f x))
/-- the walk in the order of the text -/
def wpOne (P : Program) (md : Region.Mode) (ops : Array Oper) (A C : World → World → Prop) (Inv : World → Prop) (Pn : Ending → World → Prop) (c : Nat) (Q : Facts → Act → Prop) : List TyV → Nat → List Oper → Facts → Act → Prop
  | _, _, [], F, a => Q F a
  | t :: Ts, k, o :: rest, F, a => Good A C c k t ∧ (∀ w, Inv w → leanO md o k F w → oneAt P ops (sel A C c k) Pn t o a w) ∧ ∀ x, wpOne P md ops A C Inv Pn c Q Ts (k + 1) rest (upd F k (t.φ x)) (a.put o.dst (t.f x))
  | [], _, _ :: _, _, _ => False

theorem oneAt_put {L : World → World → Prop} {o : Oper} (hs : ∀ cs b, o.op ≠ .select cs b) {t : TyV} {a : Act} {dst : Option Tmp} {v : Value} (h : ∀ d, dst = some d → d ∉ o.looksAt ops) (w : World) :
    oneAt P ops L Pn t o (a.put dst v) w = oneAt P ops L Pn t o a w := by
  unfold oneAt
  rw [wanted_put o a dst v h, execOp_put o hs a dst v h]

def KeepsO (A C : World → World → Prop) (c : Nat) (F : Facts) : Prop := ∀ i k w w', k ≠ i → sel A C c i w w' → F k w → F k w'
theorem Good.stays {t : TyV} {i j : Nat} (h : Good A C c i t) (hj : i ≠ j) (x : t.α) {w w' : World} (hl : sel A C c j w w') (hx : t.φ x w) : t.φ x w' := by
  unfold sel at hl
  split at hl
  · rename_i e
    exact h.2 (by omega) x w w' hl hx
  · exact h.1 x w w' hl hx
theorem KeepsO.upd {F : Facts} (h : KeepsO A C c F) (i : Nat) {t : TyV} (hg : Good A C c i t) (x : t.α) : KeepsO A C c (upd F i (t.φ x)) := by
  intro j k w w' hk hl hf
  unfold Proofs.Ytbnnokibjccdaaa.upd at *
  split
  · rename_i e; rw [if_pos e] at hf; exact hg.stays (by omega) x hl hf
  · rename_i e; rw [if_neg e] at hf; exact h j k w w' hk hl hf
theorem holds_updO {F : Facts} (h : KeepsO A C c F) {w w' : World} (i : Nat) (hl : sel A C c i w w') (hF : ∀ k, F k w) (t : TyV) (x : t.α) (hx : t.φ x w') : ∀ k, upd F i (t.φ x) k w' := by
  intro k
  unfold Proofs.Ytbnnokibjccdaaa.upd
  split
  · exact hx
  · rename_i e; exact h i k w w' e hl (hF k)
theorem put_defers (a : Act) (dst : Option Tmp) (v : Value) : (a.put dst v).defers = a.defers := by
  cases dst <;> rfl

theorem wpOp_of_oneOp (hI : ∀ i w w', sel A C c i w w' → Inv w → Inv w') {i : Nat} {F : Facts} {a : Act} {K : Facts → Act → Prop} {K' : Act → World → Prop} {Q' : Exit → Act → World → Prop} {w : World} {D : List Deferred}
    (hP : ∀ k a w', Pn (.panicked k) w' → a.defers = D → Q' (.panic k) a w') (hD : a.defers = D)
    (hC : Inv w) (hk : KeepsO A C c F) (hF : ∀ k, F k w) (h : ∀ F a w', a.defers = D → Inv w' → KeepsO A C c F → (∀ k, F k w') → K F a → K' a w') (hh : oneOp P md ops A C Inv Pn c T i K F a) : wpOp P ops Q' i K' a w := by
  unfold oneOp at hh
  unfold wpOp
  split
  · rename_i ho; simp only [ho] at hh; exact h _ _ _ hD hC hk hF hh
  · rename_i o ho
    simp only [ho] at hh
    obtain ⟨hg, hh1, hh2⟩ := hh
    have h1 := hh1 w hC ⟨hF i, fun e _ _ => hF e.on⟩
    unfold oneAt at h1
    split
    · rename_i hw
      rw [if_pos hw] at h1
      refine .inl ?_
      unfold Oper.wp
      generalize (execOp a.eval o).run P w = r at h1
      cases r with
      | ok n w' =>
        cases n <;> simp only [oneUpon] at h1 <;> simp only [Oper.upon]
        case value u =>
          obtain ⟨e1, x, rfl, e3⟩ := h1
          exact h _ _ _ ((put_defers _ _ _).trans hD) (hI i _ _ e1 hC) (hk.upd i hg x) (holds_updO hk i e1 hF _ x e3) (hh2 x)
        case skip =>
          obtain ⟨e1, x, e2, e3⟩ := h1
          rw [e2]
          exact h _ _ _ ((put_defers _ _ _).trans hD) (hI i _ _ e1 hC) (hk.upd i hg x) (holds_updO hk i e1 hF _ x e3) (hh2 x)
        case enter f args =>
          refine h1.mono ?_
          rintro e w'' (⟨x, rfl, e2, e3⟩ | ⟨k, rfl, e3⟩)
          · exact h _ _ _ ((put_defers _ _ _).trans hD) (hI i _ _ e2 hC) (hk.upd i hg x) (holds_updO hk i e2 hF _ x e3) (hh2 x)
          · exact hP k a w'' e3 hD
      | halt x w' => simp only [oneUpon] at h1
    · rename_i hw
      rw [if_neg hw] at h1
      obtain ⟨x, e2, e3⟩ := h1
      rw [e2]
      have hx := hh2 x
      refine h _ _ _ ((put_defers _ _ _).trans hD) hC (hk.upd i hg x) ?_ hx
      intro k
      unfold upd
      split
      · exact e3
      · exact hF k

def wpAnyOne (P : Program) (md : Region.Mode) (ops : Array Oper) (A C : World → World → Prop) (Inv : World → Prop) (Pn : Ending → World → Prop) (c : Nat) (T : Nat → TyV) (n : Nat) (Lc : Array Bool → Prop) (Q : Facts → Act → Prop) : Nat → Array Bool → Facts → Act → Prop
  | 0, listed, F, a => Lc listed ∧ Q F a
  | fuel + 1, listed, F, a => Region.ready md ops listed ≠ [] ∧ ∀ i ∈ Region.ready md ops listed, i < n ∧ oneOp P md ops A C Inv Pn c T i (wpAnyOne P md ops A C Inv Pn c T n Lc Q fuel (listed.setIfInBounds i true)) F a

theorem wpAny_of_one (hI : ∀ i w w', sel A C c i w w' → Inv w → Inv w') {n g : Nat} {Lc : Array Bool → Prop} {Q : Facts → Act → Prop} {Q' : Exit → Act → World → Prop} {D : List Deferred}
    (hP : ∀ k a w', Pn (.panicked k) w' → a.defers = D → Q' (.panic k) a w')
    (hQ : ∀ listed F a w, Lc listed → Inv w → (∀ k, F k w) → Q F a → wpAny P md ops Q' g listed a w) :
    ∀ (fuel : Nat) (listed : Array Bool) (F : Facts) (a : Act) (w : World), a.defers = D → Inv w → KeepsO A C c F → (∀ k, F k w) →
    wpAnyOne P md ops A C Inv Pn c T n Lc Q fuel listed F a → wpAny P md ops Q' (fuel + g) listed a w
  | 0, _, _, _, _, _, hw, _, hF, h => by rw [Nat.zero_add]; exact hQ _ _ _ _ h.1 hw hF h.2
  | fuel + 1, _, _, _, _, hd, hw, hk, hF, h => by
    rw [show fuel + 1 + g = (fuel + g) + 1 by omega]
    exact ⟨fun h0 => absurd h0 h.1, fun i hi => wpOp_of_oneOp hI hP hd hw hk hF (fun F' a' w' hd' hw' hk' hF' => wpAny_of_one hI hP hQ fuel _ F' a' w' hd' hw' hk' hF') (h.2 i hi).2⟩

theorem wpAnyOne_first {n : Nat} {Lc : Array Bool → Prop} {Q : Facts → Act → Prop} {i : Nat} {oi : Oper} (hi : ops[i]? = some oi) (hsel : ∀ (j : Nat) (o : Oper) cs b, ops[j]? = some o → o.op ≠ .select cs b)
    (hs : Region.sinkB md ops n = true) (hc : Region.chainB md ops n = true) (hn : n < ops.size) (hin : i < n) (hdone : ∀ listed, Lc listed → ∀ j ∈ Region.ready md ops listed, n ≤ j) :
    ∀ (fuel : Nat) (listed : Array Bool) (F : Facts) (a : Act), HeadInv md ops n listed →
      (∀ j oj, ops[j]? = some oj → j ≠ i → listed.getD j true = false → (∀ e ∈ oj.after, Region.binds md e = true → e.on ≠ i) → oi.apart ops oj = true) →
      i ∈ Region.ready md ops listed → Good A C c i (T i) → (∀ w, Inv w → leanO md oi i F w → oneAt P ops (sel A C c i) Pn (T i) oi a w) →
      (∀ x, wpAnyOne P md ops A C Inv Pn c T n Lc Q fuel (listed.setIfInBounds i true) (upd F i ((T i).φ x)) (a.put oi.dst ((T i).f x))) → wpAnyOne P md ops A C Inv Pn c T n Lc Q (fuel + 1) listed F a := by
  intro fuel
  induction fuel with
  | zero =>
    intro listed F a inv _ hr hg hy H
    have hun := (mem_ready.1 hr).1
    refine ⟨fun h => (by rw [h] at hr; cases hr), fun j hj => ?_⟩
    have hjn : j < n := by
      rcases Nat.lt_or_ge j n with h | h
      · exact h
      · exact absurd hj (tail_waits hs hc hn inv _ i rfl hin hun j h)
    refine ⟨hjn, ?_⟩
    by_cases hji : j = i
    · subst hji; unfold oneOp; simp only [hi]; exact ⟨hg, hy, H⟩
    · obtain ⟨x⟩ := (T i).inh
      have := hdone _ (H x).1 j (ready_mono hj hji)
      omega
  | succ fuel ih =>
    intro listed F a inv hfree hr hg hy H
    have hun := (mem_ready.1 hr).1
    refine ⟨fun h => (by rw [h] at hr; cases hr), fun j hj => ?_⟩
    have hjn : j < n := by
      rcases Nat.lt_or_ge j n with h | h
      · exact h
      · exact absurd hj (tail_waits hs hc hn inv _ i rfl hin hun j h)
    refine ⟨hjn, ?_⟩
    by_cases hji : j = i
    · subst hji; unfold oneOp; simp only [hi]; exact ⟨hg, hy, H⟩
    · obtain ⟨hjun, oj, hoj, hall⟩ := mem_ready.1 hj
      have hnot : ∀ e ∈ oj.after, Region.binds md e = true → e.on ≠ i := fun e he hb heq => by
        have h1 := hall e he hb
        rw [heq, getD_both hun] at h1
        cases h1
      have hnoti : ∀ e ∈ oi.after, Region.binds md e = true → e.on ≠ j := fun e he hb heq => by
        obtain ⟨hiun, oi', hoi', halli⟩ := mem_ready.1 hr
        rw [hi] at hoi'
        cases hoi'
        have h1 := halli e he hb
        rw [heq, getD_both hjun] at h1
        cases h1
      obtain ⟨p1, p2, p3⟩ := Oper.apart_spec (hfree j oj hoj hji hjun hnot)
      have HJ : ∀ x, Good A C c j (T j) ∧ (∀ w, Inv w → leanO md oj j (upd F i ((T i).φ x)) w → oneAt P ops (sel A C c j) Pn (T j) oj (a.put oi.dst ((T i).f x)) w) ∧
          ∀ y, wpAnyOne P md ops A C Inv Pn c T n Lc Q fuel ((listed.setIfInBounds i true).setIfInBounds j true) (upd (upd F i ((T i).φ x)) j ((T j).φ y)) ((a.put oi.dst ((T i).f x)).put oj.dst ((T j).f y)) := by
        intro x
        have h1 := ((H x).2 j (ready_mono hj hji)).2
        unfold oneOp at h1
        simp only [hoj] at h1
        exact h1
      unfold oneOp
      simp only [hoj]
      obtain ⟨x0⟩ := (T i).inh
      refine ⟨(HJ x0).1, fun w hw hl => ?_, fun y => ?_⟩
      · have h1 := (HJ x0).2.1 w hw ⟨by rw [upd_ne _ _ hji]; exact hl.1, fun e he hb => by rw [upd_ne _ _ (hnot e he hb)]; exact hl.2 e he hb⟩
        rwa [oneAt_put (fun cs b => hsel j oj cs b hoj) p1] at h1
      · have hfree' : ∀ k ok, ops[k]? = some ok → k ≠ i → (listed.setIfInBounds j true).getD k true = false →
            (∀ e ∈ ok.after, Region.binds md e = true → e.on ≠ i) → oi.apart ops ok = true := fun k ok hk hki hun hno => by
          refine hfree k ok hk hki ?_ hno
          by_cases hjk : j = k
          · subst hjk; exact hjun
          · rw [getD_set_ne true hjk] at hun; exact hun
        refine ih (listed.setIfInBounds j true) _ _ (inv.set hj hjn) hfree' (ready_mono hr (Ne.symm hji)) hg ?_ ?_
        · intro w hw hl
          rw [oneAt_put (fun cs b => hsel i oi cs b hi) p3]
          exact hy w hw ⟨by have := hl.1; rwa [upd_ne _ _ (Ne.symm hji)] at this, fun e he hb => by have := hl.2 e he hb; rwa [upd_ne _ _ (hnoti e he hb)] at this⟩
        · intro x
          have h1 := (HJ x).2.2 y
          rw [Array.setIfInBounds_comm _ _ hji, upd_comm _ _ _ hji, ← Act.put_comm a _ _ p2]
          exact h1

theorem wpAnyOne_lex {n g : Nat} {Q : Facts → Act → Prop} (hsel : Region.noSelect ops = true) (hs : Region.sinkB md ops n = true) (hc : Region.chainB md ops n = true) (hn : n < ops.size) :
    ∀ (l : List Oper) (Ts : List TyV) (k : Nat) (listed : Array Bool) (F : Facts) (a : Act), (∀ j, j < l.length → l[j]? = ops[k + j]?) → (∀ j t, Ts[j]? = some t → T (k + j) = t) → k + l.length = n → HeadInv md ops n listed →
    Region.lexHead md ops g l.length k listed = true → wpOne P md ops A C Inv Pn c Q Ts k l F a →
    wpAnyOne P md ops A C Inv Pn c T n (fun listed' => Region.seqB md ops g n listed' = true) Q l.length listed F a
  | [], Ts, k, listed, F, a, hl, _, hk, inv, hB, h => by
    have : k = n := by simpa using hk
    subst this
    cases Ts <;> exact ⟨by simpa [Region.lexHead] using hB, by simpa [wpOne] using h⟩
  | o :: l, [], _, _, _, _, _, _, _, _, _, h => by simp [wpOne] at h
  | o :: l, t :: Ts, k, listed, F, a, hl, hT, hk, inv, hB, h => by
    have h0 : ops[k]? = some o := by simpa using (hl 0 (by simp)).symm
    have hTk : T k = t := by simpa using hT 0 t (by simp)
    simp only [List.length_cons, Region.lexHead, Bool.and_eq_true] at hB
    obtain ⟨⟨hr, hf⟩, hB'⟩ := hB
    have hkn : k < n := by simp only [List.length_cons] at hk; omega
    have hr' : k ∈ Region.ready md ops listed := by simpa using hr
    simp only [wpOne] at h
    subst hTk
    exact wpAnyOne_first h0 (Region.noSelect_spec hsel) hs hc hn hkn (fun listed hl => seqB_ready hl) l.length listed F a inv (Region.free_spec h0 hf) hr' h.1 h.2.1
      (fun x => wpAnyOne_lex hsel hs hc hn l Ts (k + 1) _ _ _ (fun j hj => by have := hl (j + 1) (by simp; omega); simpa [Nat.add_assoc, Nat.add_comm 1 j] using this)
        (fun j t ht => by have := hT (j + 1) t (by simpa using ht); simpa [Nat.add_assoc, Nat.add_comm 1 j] using this) (by simp only [List.length_cons] at hk; omega) (inv.set hr' hkn) hB' (h.2.2 x))

def preAt (c : Nat) (Pre : World → Prop) : Facts := fun k w => k = c → Pre w

/-- one walk in the order of the text, then the tail -/
theorem wp_region_one (c n : Nat) (A C : World → World → Prop) (Inv Pre : World → Prop) (Pn : Ending → World → Prop) (hIA : ∀ w w', A w w' → Inv w → Inv w') (hIC : ∀ w w', C w w' → Inv w → Inv w') (hPA : ∀ w w', A w w' → Pre w → Pre w')
    {id : Nat} {Q : Exit → Act → World → Prop} {a : Act} {w : World} {l : List Oper} (Ts : List TyV) (hP : ∀ k a' w', Pn (.panicked k) w' → a'.defers = a.defers → Q (.panic k) a' w') (hm : P.follows .mixedOrders = true) (hB : Region.lexTailB .any l.toArray n = true)
    (h0 : Inv w.drew) (h1 : Pre w.drew)
    (h : wpOne P .any l.toArray A C Inv Pn c (fun F a' => ∀ w', Inv w' → (∀ k, F k w') → wpList P l.toArray Q (l.drop n) a' w') Ts 0 (l.take n) (preAt c Pre) a) : (Code.region id l.toArray true).wp P Q a w := by
  have hI : ∀ i w w', sel A C c i w w' → Inv w → Inv w' := fun i w w' hl hi => by
    unfold sel at hl
    split at hl
    · exact hIC _ _ hl hi
    · exact hIA _ _ hl hi
  have hk0 : KeepsO A C c (preAt c Pre) := fun i k w w' hki hl hf e => by
    unfold sel at hl
    split at hl
    · omega
    · exact hPA _ _ hl (hf e)
  simp only [Region.lexTailB, Bool.and_eq_true, decide_eq_true_eq] at hB
  obtain ⟨⟨⟨⟨h1', h2⟩, h3⟩, h4⟩, h5⟩ := hB
  have hlt : n < l.length := by simpa using h2
  have hlen : (l.take n).length = n := by rw [List.length_take]; omega
  refine wp_region_any hm ?_
  have inv : HeadInv .any l.toArray n (Array.replicate l.toArray.size false) := ⟨by simp, (fun j oj hj hl => by rw [getD_replicate_false] at hl; cases hl), (fun t ht ht' => by simp at ht'; simp [ht'])⟩
  have key : wpAnyOne P .any l.toArray A C Inv Pn c (fun k => Ts.getD k ⟨Unit, ⟨()⟩, fun _ => undef, fun _ _ => True⟩) n (fun listed' => Region.seqB .any l.toArray (l.toArray.size - n) n listed' = true)
      (fun F a' => ∀ w', Inv w' → (∀ k, F k w') → wpList P l.toArray Q (l.drop n) a' w') (l.take n).length (Array.replicate l.toArray.size false) (preAt c Pre) a :=
    wpAnyOne_lex h1' h3 h4 h2 (l.take n) Ts 0 _ _ _ (fun j hj => by rw [hlen] at hj; simp [hj]) (by intro j t hj; simp [hj]) (by omega) inv (by rw [hlen]; exact h5) h
  have hfin := wpAny_of_one (P := P) (g := (l.drop n).length) hI (Q' := Q) hP (fun listed F a' w' hl hw hF hq => wpAny_of_seq (l.drop n) n listed a' w' (fun j => by simp [List.getElem?_drop]) (by rw [List.length_drop]; simpa using hl) (hq w' hw hF)) _ _ _ _ _ rfl h0 hk0 (fun _ e => h1) key
  have e : (l.take n).length + (l.drop n).length = l.length := by rw [← List.length_append, List.take_append_drop]
  rw [e] at hfin
  simpa using hfin

theorem wpOne_nil {Q : Facts → Act → Prop} {Ts : List TyV} {k : Nat} {F : Facts} {a : Act} (h : Q F a) : wpOne P md ops A C Inv Pn c Q Ts k [] F a := by
  cases Ts <;> exact h
theorem wpOne_cons {Q : Facts → Act → Prop} {t : TyV} {Ts : List TyV} {k : Nat} {o : Oper} {rest : List Oper} {F : Facts} {a : Act}
    (hg : Good A C c k t) (h1 : ∀ w, Inv w → leanO md o k F w → oneAt P ops (sel A C c k) Pn t o a w) (h2 : ∀ x, wpOne P md ops A C Inv Pn c Q Ts (k + 1) rest (upd F k (t.φ x)) (a.put o.dst (t.f x))) : wpOne P md ops A C Inv Pn c Q (t :: Ts) k (o :: rest) F a := ⟨hg, h1, h2⟩
/-- one value -/
def tvIs (v : Value) : TyV := ⟨Unit, ⟨()⟩, fun _ => v, fun _ _ => True⟩
theorem tvIs_good (v : Value) (k : Nat) : Good A C c k (tvIs v) := ⟨fun _ _ _ _ h => h, fun _ _ _ _ _ h => h⟩
theorem tvIs_f (v : Value) (x : (tvIs v).α) : (tvIs v).f x = v := rfl
end
end Go.Proofs.Ytbnnokibjccdaaa
