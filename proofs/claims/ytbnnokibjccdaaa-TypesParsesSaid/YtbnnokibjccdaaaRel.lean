/-
  LAWS: a region that draws its order, walked once in the order of the text, where an operation's value is not known but for its kind: each operation has a type (the values that it may leave, and what then holds in the world from there on), fixed before the walk.
-/
import Derived.Still
import Derived.Below
import Derived.WalkSmall
import Derived.BigQuiet
import Derived.Deep.QuietTactic
import Derived.KernelRfl
namespace Go.Proofs.Ytbnnokibjccdaaa
open Go
set_option linter.unusedVariables false

/-- what an operation may leave: the value f x for some x, of which φ x holds in the world, then and later -/
structure Ty (Le : World → World → Prop) where
  α : Type
  inh : Nonempty α
  f : α → Value
  φ : α → World → Prop
  mono : ∀ x w w', Le w w' → φ x w → φ x w'

section
variable {P : Program} {ops : Array Oper} {md : Region.Mode} {Le : World → World → Prop}

def relUpon (P : Program) (Le : World → World → Prop) (T : Ty Le) (w : World) : Result Next → Prop
  | .ok (.value u) w' => Le w w' ∧ ∃ x, u = T.f x ∧ T.φ x w'
  | .ok .skip w' => Le w w' ∧ ∃ x, undef = T.f x ∧ T.φ x w'
  | .ok (.enter g args) w' => Le w w' ∧ Calls P g args w' (fun e w'' => ∃ x, e = .returned (T.f x) ∧ Le w' w'' ∧ T.φ x w'')
  | _ => False

/-- what is asked of one operation in one world -/
def relAt (P : Program) (ops : Array Oper) (Le : World → World → Prop) (T : Ty Le) (o : Oper) (a : Act) (w : World) : Prop :=
  if Region.wanted o (yielded ops a.tmps) then relUpon P Le T w ((execOp a.eval o).run P w) else ∃ x, undef = T.f x ∧ T.φ x w

abbrev Facts := Nat → World → Prop
def upd (F : Facts) (i : Nat) (p : World → Prop) : Facts := fun k => if k = i then p else F k
theorem upd_same (F : Facts) (i : Nat) (p : World → Prop) : upd F i p i = p := by simp [upd]
theorem upd_ne (F : Facts) {i k : Nat} (p : World → Prop) (h : k ≠ i) : upd F i p k = F k := by simp [upd, h]
theorem upd_comm (F : Facts) {i j : Nat} (p q : World → Prop) (h : i ≠ j) : upd (upd F i p) j q = upd (upd F j q) i p := by
  funext k
  unfold upd
  by_cases h1 : k = i
  · subst h1; simp [h]
  · by_cases h2 : k = j
    · subst h2; simp [h1]
    · simp [h1, h2]

/-- what an operation may lean on: the facts of those that it waits for -/
def leans (md : Region.Mode) (o : Oper) (F : Facts) (w : World) : Prop := ∀ e ∈ o.after, Region.binds md e = true → F e.on w

def relOp (P : Program) (md : Region.Mode) (ops : Array Oper) (Le : World → World → Prop) (w0 : World) (T : Nat → Ty Le) (i : Nat) (K : Facts → Act → Prop) (F : Facts) (a : Act) : Prop :=
  match ops[i]? with
  | none => K F a
  | some o => (∀ w, Le w0 w → leans md o F w → relAt P ops Le (T i) o a w) ∧ ∀ x, K (upd F i ((T i).φ x)) (a.put o.dst ((T i).f x))

/-- the walk in the order of the text -/
def wpRel (P : Program) (md : Region.Mode) (ops : Array Oper) (Le : World → World → Prop) (w0 : World) (Q : Facts → Act → Prop) : List (Ty Le) → Nat → List Oper → Facts → Act → Prop
  | _, _, [], F, a => Q F a
  | T :: Ts, k, o :: rest, F, a => (∀ w, Le w0 w → leans md o F w → relAt P ops Le T o a w) ∧ ∀ x, wpRel P md ops Le w0 Q Ts (k + 1) rest (upd F k (T.φ x)) (a.put o.dst (T.f x))
  | [], _, _ :: _, _, _ => False

def wpAnyRel (P : Program) (md : Region.Mode) (ops : Array Oper) (Le : World → World → Prop) (w0 : World) (T : Nat → Ty Le) (Q : Facts → Act → Prop) : Nat → Array Bool → Facts → Act → Prop
  | 0, listed, F, a => Region.ready md ops listed = [] ∧ Q F a
  | fuel + 1, listed, F, a =>
    (Region.ready md ops listed = [] → Q F a) ∧
    ∀ i ∈ Region.ready md ops listed, relOp P md ops Le w0 T i (wpAnyRel P md ops Le w0 T Q fuel (listed.setIfInBounds i true)) F a

variable {w0 : World} {T : Nat → Ty Le}

theorem relOp_mono {i : Nat} {F : Facts} {a : Act} {K K' : Facts → Act → Prop} (h : ∀ F a, K F a → K' F a) (hh : relOp P md ops Le w0 T i K F a) : relOp P md ops Le w0 T i K' F a := by
  unfold relOp at *
  split
  · exact h _ _ (by simpa [*] using hh)
  · rename_i o ho
    simp only [ho] at hh
    exact ⟨hh.1, fun x => h _ _ (hh.2 x)⟩

theorem relAt_put {o : Oper} (hs : ∀ cs b, o.op ≠ .select cs b) {t : Ty Le} {a : Act} {dst : Option Tmp} {v : Value} (h : ∀ d, dst = some d → d ∉ o.looksAt ops) (w : World) :
    relAt P ops Le t o (a.put dst v) w = relAt P ops Le t o a w := by
  unfold relAt
  rw [wanted_put o a dst v h, execOp_put o hs a dst v h]

def Keeps (Le : World → World → Prop) (F : Facts) : Prop := ∀ k w w', Le w w' → F k w → F k w'
theorem Keeps.upd {F : Facts} (h : Keeps Le F) (i : Nat) (t : Ty Le) (x : t.α) : Keeps Le (upd F i (t.φ x)) := by
  intro k w w' hl hf
  unfold Proofs.Ytbnnokibjccdaaa.upd at *
  split
  · rename_i hk; rw [if_pos hk] at hf; exact t.mono x w w' hl hf
  · rename_i hk; rw [if_neg hk] at hf; exact h k w w' hl hf
theorem holds_upd {F : Facts} (h : Keeps Le F) {w w' : World} (hl : Le w w') (hF : ∀ k, F k w) (i : Nat) (t : Ty Le) (x : t.α) (hx : t.φ x w') : ∀ k, upd F i (t.φ x) k w' := by
  intro k
  unfold Proofs.Ytbnnokibjccdaaa.upd
  split
  · exact hx
  · exact h k w w' hl (hF k)

theorem wpOp_of_relOp (ht : ∀ w1 w2 w3, Le w1 w2 → Le w2 w3 → Le w1 w3) {i : Nat} {F : Facts} {a : Act} {K : Facts → Act → Prop} {K' : Act → World → Prop} {Q' : Exit → Act → World → Prop} {w : World}
    (hC : Le w0 w) (hk : Keeps Le F) (hF : ∀ k, F k w) (h : ∀ F a w', Le w0 w' → Keeps Le F → (∀ k, F k w') → K F a → K' a w') (hh : relOp P md ops Le w0 T i K F a) : wpOp P ops Q' i K' a w := by
  unfold relOp at hh
  unfold wpOp
  split
  · rename_i ho; simp only [ho] at hh; exact h _ _ _ hC hk hF hh
  · rename_i o ho
    simp only [ho] at hh
    have h1 := hh.1 w hC (fun e _ _ => hF e.on)
    unfold relAt at h1
    split
    · rename_i hw
      rw [if_pos hw] at h1
      refine .inl ?_
      unfold Oper.wp
      generalize (execOp a.eval o).run P w = r at h1
      cases r with
      | ok n w' =>
        cases n <;> simp only [relUpon] at h1 <;> simp only [Oper.upon]
        case value u =>
          obtain ⟨e1, x, rfl, e3⟩ := h1
          exact h _ _ _ (ht _ _ _ hC e1) (hk.upd i _ x) (holds_upd hk e1 hF i _ x e3) (hh.2 x)
        case skip =>
          obtain ⟨e1, x, e2, e3⟩ := h1
          rw [e2]
          exact h _ _ _ (ht _ _ _ hC e1) (hk.upd i _ x) (holds_upd hk e1 hF i _ x e3) (hh.2 x)
        case enter f args =>
          obtain ⟨e1, hc⟩ := h1
          refine hc.mono ?_
          rintro e w'' ⟨x, rfl, e2, e3⟩
          exact h _ _ _ (ht _ _ _ hC (ht _ _ _ e1 e2)) (hk.upd i _ x) (holds_upd hk (ht _ _ _ e1 e2) hF i _ x e3) (hh.2 x)
      | halt x w' => simp only [relUpon] at h1
    · rename_i hw
      rw [if_neg hw] at h1
      obtain ⟨x, e2, e3⟩ := h1
      rw [e2]
      have hx := hh.2 x
      refine h _ _ _ hC (hk.upd i _ x) ?_ hx
      intro k
      unfold upd
      split
      · exact e3
      · exact hF k

theorem wpAny_of_rel (ht : ∀ w1 w2 w3, Le w1 w2 → Le w2 w3 → Le w1 w3) {Q : Facts → Act → Prop} {Q' : Exit → Act → World → Prop} (hQ : ∀ F a w, Le w0 w → (∀ k, F k w) → Q F a → Q' .normal a w) :
    ∀ (fuel : Nat) (listed : Array Bool) (F : Facts) (a : Act) (w : World), Le w0 w → Keeps Le F → (∀ k, F k w) →
    wpAnyRel P md ops Le w0 T Q fuel listed F a → wpAny P md ops Q' fuel listed a w
  | 0, _, _, _, _, hw, _, hF, h => ⟨h.1, hQ _ _ _ hw hF h.2⟩
  | fuel + 1, _, _, _, _, hw, hk, hF, h => ⟨fun h0 => hQ _ _ _ hw hF (h.1 h0), fun i hi => wpOp_of_relOp ht hw hk hF (fun F' a' w' hw' hk' hF' => wpAny_of_rel ht hQ fuel _ F' a' w' hw' hk' hF') (h.2 i hi)⟩

/-- an operation that may come up now may be taken first -/
theorem wpAnyRel_first {Q : Facts → Act → Prop} {i : Nat} {oi : Oper} (hi : ops[i]? = some oi) (hsel : ∀ (j : Nat) (o : Oper) cs b, ops[j]? = some o → o.op ≠ .select cs b) :
    ∀ (fuel : Nat) (listed : Array Bool) (F : Facts) (a : Act),
      (∀ j oj, ops[j]? = some oj → j ≠ i → listed.getD j true = false → (∀ e ∈ oj.after, Region.binds md e = true → e.on ≠ i) → oi.apart ops oj = true) →
      i ∈ Region.ready md ops listed → (∀ w, Le w0 w → leans md oi F w → relAt P ops Le (T i) oi a w) →
      (∀ x, wpAnyRel P md ops Le w0 T Q fuel (listed.setIfInBounds i true) (upd F i ((T i).φ x)) (a.put oi.dst ((T i).f x))) → wpAnyRel P md ops Le w0 T Q (fuel + 1) listed F a := by
  intro fuel
  induction fuel with
  | zero =>
    intro listed F a _ hr hy H
    refine ⟨fun h => (by rw [h] at hr; cases hr), fun j hj => ?_⟩
    by_cases hji : j = i
    · subst hji; unfold relOp; simp only [hi]; exact ⟨hy, H⟩
    · obtain ⟨x⟩ := (T i).inh
      have := ready_mono hj hji
      rw [(H x).1] at this
      cases this
  | succ fuel ih =>
    intro listed F a hfree hr hy H
    refine ⟨fun h => (by rw [h] at hr; cases hr), fun j hj => ?_⟩
    by_cases hji : j = i
    · subst hji; unfold relOp; simp only [hi]; exact ⟨hy, H⟩
    · obtain ⟨hjun, oj, hoj, hall⟩ := mem_ready.1 hj
      have hnot : ∀ e ∈ oj.after, Region.binds md e = true → e.on ≠ i := fun e he hb heq => by
        have h1 := hall e he hb
        have h0 := (mem_ready.1 hr).1
        rw [heq] at h1
        rcases Nat.lt_or_ge i listed.size with h' | h'
        · simp [h'] at h0 h1; rw [h0] at h1; cases h1
        · simp [Array.getElem?_eq_none h'] at h1
      have hnoti : ∀ e ∈ oi.after, Region.binds md e = true → e.on ≠ j := fun e he hb heq => by
        obtain ⟨hiun, oi', hoi', halli⟩ := mem_ready.1 hr
        rw [hi] at hoi'
        cases hoi'
        have h1 := halli e he hb
        rw [heq] at h1
        rcases Nat.lt_or_ge j listed.size with h' | h'
        · simp [h'] at hjun h1; rw [hjun] at h1; cases h1
        · simp [Array.getElem?_eq_none h'] at h1
      obtain ⟨p1, p2, p3⟩ := Oper.apart_spec (hfree j oj hoj hji hjun hnot)
      have HJ : ∀ x, (∀ w, Le w0 w → leans md oj (upd F i ((T i).φ x)) w → relAt P ops Le (T j) oj (a.put oi.dst ((T i).f x)) w) ∧
          ∀ y, wpAnyRel P md ops Le w0 T Q fuel ((listed.setIfInBounds i true).setIfInBounds j true) (upd (upd F i ((T i).φ x)) j ((T j).φ y)) ((a.put oi.dst ((T i).f x)).put oj.dst ((T j).f y)) := by
        intro x
        have h1 := (H x).2 j (ready_mono hj hji)
        unfold relOp at h1
        simp only [hoj] at h1
        exact h1
      unfold relOp
      simp only [hoj]
      refine ⟨fun w hw hl => ?_, fun y => ?_⟩
      · obtain ⟨x⟩ := (T i).inh
        have h1 := (HJ x).1 w hw (fun e he hb => by rw [upd_ne _ _ (hnot e he hb)]; exact hl e he hb)
        rwa [relAt_put (fun cs b => hsel j oj cs b hoj) p1] at h1
      · have hfree' : ∀ k ok, ops[k]? = some ok → k ≠ i → (listed.setIfInBounds j true).getD k true = false →
            (∀ e ∈ ok.after, Region.binds md e = true → e.on ≠ i) → oi.apart ops ok = true := fun k ok hk hki hun hno => by
          refine hfree k ok hk hki ?_ hno
          by_cases hjk : j = k
          · subst hjk; exact hjun
          · rw [getD_set_ne true hjk] at hun; exact hun
        refine ih (listed.setIfInBounds j true) _ _ hfree' (ready_mono hr (Ne.symm hji)) ?_ ?_
        · intro w hw hl
          rw [relAt_put (fun cs b => hsel i oi cs b hi) p3]
          exact hy w hw (fun e he hb => by have := hl e he hb; rwa [upd_ne _ _ (hnoti e he hb)] at this)
        · intro x
          have h1 := (HJ x).2 y
          rw [Array.setIfInBounds_comm _ _ hji, upd_comm _ _ _ hji, ← Act.put_comm a _ _ p2]
          exact h1

def nth (Ts : List (Ty Le)) (d : Ty Le) (k : Nat) : Ty Le := Ts.getD k d

theorem wpAnyRel_lex {Q : Facts → Act → Prop} (hs : Region.noSelect ops = true) : ∀ (l : List Oper) (Ts : List (Ty Le)) (k : Nat) (listed : Array Bool) (F : Facts) (a : Act), (∀ j, l[j]? = ops[k + j]?) → (∀ j t, Ts[j]? = some t → T (k + j) = t) →
    Region.lexFrom md ops l.length k listed = true → wpRel P md ops Le w0 Q Ts k l F a → wpAnyRel P md ops Le w0 T Q l.length listed F a
  | [], _, _, _, _, _, _, _, hB, h => by
    cases ‹List (Ty Le)› <;> exact ⟨by simpa [Region.lexFrom] using hB, by simpa [wpRel] using h⟩
  | o :: l, [], _, _, _, _, _, _, _, h => by simp [wpRel] at h
  | o :: l, t :: Ts, k, listed, F, a, hl, hT, hB, h => by
    have h0 : ops[k]? = some o := by simpa using (hl 0).symm
    have hTk : T k = t := by simpa using hT 0 t (by simp)
    simp only [List.length_cons, Region.lexFrom, Bool.and_eq_true] at hB
    obtain ⟨⟨hr, hf⟩, hB'⟩ := hB
    simp only [wpRel] at h
    subst hTk
    exact wpAnyRel_first h0 (Region.noSelect_spec hs) l.length listed F a (Region.free_spec h0 hf) (by simpa using hr) h.1
      (fun x => wpAnyRel_lex hs l Ts (k + 1) _ _ _ (fun j => by have := hl (j + 1); simpa [Nat.add_assoc, Nat.add_comm 1 j] using this)
        (fun j t ht => by have := hT (j + 1) t (by simpa using ht); simpa [Nat.add_assoc, Nat.add_comm 1 j] using this) hB' (h.2 x))

/-- one walk in the order of the text serves every order -/
theorem wp_region_rel (hr : ∀ w, Le w w) (ht : ∀ w1 w2 w3, Le w1 w2 → Le w2 w3 → Le w1 w3) {id : Nat} {Q : Exit → Act → World → Prop} {a : Act} {w : World} {l : List Oper} (Ts : List (Ty Le)) (hm : P.follows .mixedOrders = true) (hB : Region.lexB .any l.toArray = true)
    (h : wpRel P .any l.toArray Le w.drew (fun F a' => ∀ w', Le w.drew w' → (∀ k, F k w') → Q .normal a' w') Ts 0 l (fun _ _ => True) a) : (Code.region id l.toArray true).wp P Q a w := by
  simp only [Region.lexB, Bool.and_eq_true] at hB
  have key : wpAnyRel P .any l.toArray Le w.drew (nth Ts ⟨Unit, ⟨()⟩, fun _ => undef, fun _ _ => True, fun _ _ _ _ h => h⟩) (fun F a' => ∀ w', Le w.drew w' → (∀ k, F k w') → Q .normal a' w') l.length (Array.replicate l.toArray.size false) (fun _ _ => True) a :=
    wpAnyRel_lex hB.1 l Ts 0 _ _ _ (by simp) (by intro j t hj; simp [nth, hj]) (by simpa using hB.2) h
  refine wp_region_any hm ?_
  exact wpAny_of_rel ht (Q := fun F a' => ∀ w', Le w.drew w' → (∀ k, F k w') → Q .normal a' w') (fun F a' w' hw' hF hq => hq w' hw' hF) _ _ _ _ _ (hr _) (fun _ _ _ _ h => h) (fun _ => trivial) (by simpa using key)

theorem wpRel_nil {Q : Facts → Act → Prop} {Ts : List (Ty Le)} {k : Nat} {F : Facts} {a : Act} (h : Q F a) : wpRel P md ops Le w0 Q Ts k [] F a := by
  cases Ts <;> exact h
theorem wpRel_cons {Q : Facts → Act → Prop} {t : Ty Le} {Ts : List (Ty Le)} {k : Nat} {o : Oper} {rest : List Oper} {F : Facts} {a : Act}
    (h1 : ∀ w, Le w0 w → leans md o F w → relAt P ops Le t o a w) (h2 : ∀ x, wpRel P md ops Le w0 Q Ts (k + 1) rest (upd F k (t.φ x)) (a.put o.dst (t.f x))) : wpRel P md ops Le w0 Q (t :: Ts) k (o :: rest) F a := ⟨h1, h2⟩

/-- one value -/
def tyIs (Le : World → World → Prop) (v : Value) : Ty Le := ⟨Unit, ⟨()⟩, fun _ => v, fun _ _ => True, fun _ _ _ _ h => h⟩
/-- a value of some kind, whatever the world -/
def tyOf (Le : World → World → Prop) {α : Type} (inh : Nonempty α) (f : α → Value) : Ty Le := ⟨α, inh, f, fun _ _ => True, fun _ _ _ _ h => h⟩

end
end Go.Proofs.Ytbnnokibjccdaaa
