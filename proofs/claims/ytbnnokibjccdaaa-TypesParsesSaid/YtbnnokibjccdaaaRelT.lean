/-
  LAWS: as Rel, for a region whose last operations come in one forced order behind all others (a store): the walk by kinds up to them, then they one by one.
-/
import Derived.Test.YtbnnokibjccdaaaRel
import Derived.StillTail
namespace Go.Proofs.Ytbnnokibjccdaaa
open Go
set_option linter.unusedVariables false

section
variable {P : Program} {ops : Array Oper} {md : Region.Mode} {Le : World → World → Prop} {w0 : World} {T : Nat → Ty Le}

def wpAnyRelT (P : Program) (md : Region.Mode) (ops : Array Oper) (Le : World → World → Prop) (w0 : World) (T : Nat → Ty Le) (n : Nat) (Lc : Array Bool → Prop) (Q : Facts → Act → Prop) : Nat → Array Bool → Facts → Act → Prop
  | 0, listed, F, a => Lc listed ∧ Q F a
  | fuel + 1, listed, F, a => Region.ready md ops listed ≠ [] ∧ ∀ i ∈ Region.ready md ops listed, i < n ∧ relOp P md ops Le w0 T i (wpAnyRelT P md ops Le w0 T n Lc Q fuel (listed.setIfInBounds i true)) F a

theorem wpAny_of_relT (ht : ∀ w1 w2 w3, Le w1 w2 → Le w2 w3 → Le w1 w3) {n g : Nat} {Lc : Array Bool → Prop} {Q : Facts → Act → Prop} {Q' : Exit → Act → World → Prop}
    (hQ : ∀ listed F a w, Lc listed → Le w0 w → (∀ k, F k w) → Q F a → wpAny P md ops Q' g listed a w) :
    ∀ (fuel : Nat) (listed : Array Bool) (F : Facts) (a : Act) (w : World), Le w0 w → Keeps Le F → (∀ k, F k w) →
    wpAnyRelT P md ops Le w0 T n Lc Q fuel listed F a → wpAny P md ops Q' (fuel + g) listed a w
  | 0, _, _, _, _, hw, _, hF, h => by rw [Nat.zero_add]; exact hQ _ _ _ _ h.1 hw hF h.2
  | fuel + 1, _, _, _, _, hw, hk, hF, h => by
    rw [show fuel + 1 + g = (fuel + g) + 1 by omega]
    exact ⟨fun h0 => absurd h0 h.1, fun i hi => wpOp_of_relOp ht hw hk hF (fun F' a' w' hw' hk' hF' => wpAny_of_relT ht hQ fuel _ F' a' w' hw' hk' hF') (h.2 i hi).2⟩

theorem wpAnyRelT_first {n : Nat} {Lc : Array Bool → Prop} {Q : Facts → Act → Prop} {i : Nat} {oi : Oper} (hi : ops[i]? = some oi) (hsel : ∀ (j : Nat) (o : Oper) cs b, ops[j]? = some o → o.op ≠ .select cs b)
    (hs : Region.sinkB md ops n = true) (hc : Region.chainB md ops n = true) (hn : n < ops.size) (hin : i < n) (hdone : ∀ listed, Lc listed → ∀ j ∈ Region.ready md ops listed, n ≤ j) :
    ∀ (fuel : Nat) (listed : Array Bool) (F : Facts) (a : Act), HeadInv md ops n listed →
      (∀ j oj, ops[j]? = some oj → j ≠ i → listed.getD j true = false → (∀ e ∈ oj.after, Region.binds md e = true → e.on ≠ i) → oi.apart ops oj = true) →
      i ∈ Region.ready md ops listed → (∀ w, Le w0 w → leans md oi F w → relAt P ops Le (T i) oi a w) →
      (∀ x, wpAnyRelT P md ops Le w0 T n Lc Q fuel (listed.setIfInBounds i true) (upd F i ((T i).φ x)) (a.put oi.dst ((T i).f x))) → wpAnyRelT P md ops Le w0 T n Lc Q (fuel + 1) listed F a := by
  intro fuel
  induction fuel with
  | zero =>
    intro listed F a inv _ hr hy H
    have hun := (mem_ready.1 hr).1
    refine ⟨fun h => (by rw [h] at hr; cases hr), fun j hj => ?_⟩
    have hjn : j < n := by
      rcases Nat.lt_or_ge j n with h | h
      · exact h
      · exact absurd hj (tail_waits hs hc hn inv _ i rfl hin hun j h)
    refine ⟨hjn, ?_⟩
    by_cases hji : j = i
    · subst hji; unfold relOp; simp only [hi]; exact ⟨hy, H⟩
    · obtain ⟨x⟩ := (T i).inh
      have := hdone _ (H x).1 j (ready_mono hj hji)
      omega
  | succ fuel ih =>
    intro listed F a inv hfree hr hy H
    have hun := (mem_ready.1 hr).1
    refine ⟨fun h => (by rw [h] at hr; cases hr), fun j hj => ?_⟩
    have hjn : j < n := by
      rcases Nat.lt_or_ge j n with h | h
      · exact h
      · exact absurd hj (tail_waits hs hc hn inv _ i rfl hin hun j h)
    refine ⟨hjn, ?_⟩
    by_cases hji : j = i
    · subst hji; unfold relOp; simp only [hi]; exact ⟨hy, H⟩
    · obtain ⟨hjun, oj, hoj, hall⟩ := mem_ready.1 hj
      have hnot : ∀ e ∈ oj.after, Region.binds md e = true → e.on ≠ i := fun e he hb heq => by
        have h1 := hall e he hb
        rw [heq, getD_both hun] at h1
        cases h1
      have hnoti : ∀ e ∈ oi.after, Region.binds md e = true → e.on ≠ j := fun e he hb heq => by
        obtain ⟨hiun, oi', hoi', halli⟩ := mem_ready.1 hr
        rw [hi] at hoi'
        cases hoi'
        have h1 := halli e he hb
        rw [heq, getD_both hjun] at h1
        cases h1
      obtain ⟨p1, p2, p3⟩ := Oper.apart_spec (hfree j oj hoj hji hjun hnot)
      have HJ : ∀ x, (∀ w, Le w0 w → leans md oj (upd F i ((T i).φ x)) w → relAt P ops Le (T j) oj (a.put oi.dst ((T i).f x)) w) ∧
          ∀ y, wpAnyRelT P md ops Le w0 T n Lc Q fuel ((listed.setIfInBounds i true).setIfInBounds j true) (upd (upd F i ((T i).φ x)) j ((T j).φ y)) ((a.put oi.dst ((T i).f x)).put oj.dst ((T j).f y)) := by
        intro x
        have h1 := ((H x).2 j (ready_mono hj hji)).2
        unfold relOp at h1
        simp only [hoj] at h1
        exact h1
      unfold relOp
      simp only [hoj]
      refine ⟨fun w hw hl => ?_, fun y => ?_⟩
      · obtain ⟨x⟩ := (T i).inh
        have h1 := (HJ x).1 w hw (fun e he hb => by rw [upd_ne _ _ (hnot e he hb)]; exact hl e he hb)
        rwa [relAt_put (fun cs b => hsel j oj cs b hoj) p1] at h1
      · have hfree' : ∀ k ok, ops[k]? = some ok → k ≠ i → (listed.setIfInBounds j true).getD k true = false →
            (∀ e ∈ ok.after, Region.binds md e = true → e.on ≠ i) → oi.apart ops ok = true := fun k ok hk hki hun hno => by
          refine hfree k ok hk hki ?_ hno
          by_cases hjk : j = k
          · subst hjk; exact hjun
          · rw [getD_set_ne true hjk] at hun; exact hun
        refine ih (listed.setIfInBounds j true) _ _ (inv.set hj hjn) hfree' (ready_mono hr (Ne.symm hji)) ?_ ?_
        · intro w hw hl
          rw [relAt_put (fun cs b => hsel i oi cs b hi) p3]
          exact hy w hw (fun e he hb => by have := hl e he hb; rwa [upd_ne _ _ (hnoti e he hb)] at this)
        · intro x
          have h1 := (HJ x).2 y
          rw [Array.setIfInBounds_comm _ _ hji, upd_comm _ _ _ hji, ← Act.put_comm a _ _ p2]
          exact h1

theorem wpAnyRelT_lex {n g : Nat} {Q : Facts → Act → Prop} (hsel : Region.noSelect ops = true) (hs : Region.sinkB md ops n = true) (hc : Region.chainB md ops n = true) (hn : n < ops.size) :
    ∀ (l : List Oper) (Ts : List (Ty Le)) (k : Nat) (listed : Array Bool) (F : Facts) (a : Act), (∀ j, j < l.length → l[j]? = ops[k + j]?) → (∀ j t, Ts[j]? = some t → T (k + j) = t) → k + l.length = n → HeadInv md ops n listed →
    Region.lexHead md ops g l.length k listed = true → wpRel P md ops Le w0 Q Ts k l F a →
    wpAnyRelT P md ops Le w0 T n (fun listed' => Region.seqB md ops g n listed' = true) Q l.length listed F a
  | [], Ts, k, listed, F, a, hl, _, hk, inv, hB, h => by
    have : k = n := by simpa using hk
    subst this
    cases Ts <;> exact ⟨by simpa [Region.lexHead] using hB, by simpa [wpRel] using h⟩
  | o :: l, [], _, _, _, _, _, _, _, _, _, h => by simp [wpRel] at h
  | o :: l, t :: Ts, k, listed, F, a, hl, hT, hk, inv, hB, h => by
    have h0 : ops[k]? = some o := by simpa using (hl 0 (by simp)).symm
    have hTk : T k = t := by simpa using hT 0 t (by simp)
    simp only [List.length_cons, Region.lexHead, Bool.and_eq_true] at hB
    obtain ⟨⟨hr, hf⟩, hB'⟩ := hB
    have hkn : k < n := by simp only [List.length_cons] at hk; omega
    have hr' : k ∈ Region.ready md ops listed := by simpa using hr
    simp only [wpRel] at h
    subst hTk
    exact wpAnyRelT_first h0 (Region.noSelect_spec hsel) hs hc hn hkn (fun listed hl => seqB_ready hl) l.length listed F a inv (Region.free_spec h0 hf) hr' h.1
      (fun x => wpAnyRelT_lex hsel hs hc hn l Ts (k + 1) _ _ _ (fun j hj => by have := hl (j + 1) (by simp; omega); simpa [Nat.add_assoc, Nat.add_comm 1 j] using this)
        (fun j t ht => by have := hT (j + 1) t (by simpa using ht); simpa [Nat.add_assoc, Nat.add_comm 1 j] using this) (by simp only [List.length_cons] at hk; omega) (inv.set hr' hkn) hB' (h.2 x))

/-- one walk by kinds in the order of the text, then the tail -/
theorem wp_region_relT (hr : ∀ w, Le w w) (ht : ∀ w1 w2 w3, Le w1 w2 → Le w2 w3 → Le w1 w3) (n : Nat) {id : Nat} {Q : Exit → Act → World → Prop} {a : Act} {w : World} {l : List Oper} (Ts : List (Ty Le)) (hm : P.follows .mixedOrders = true) (hB : Region.lexTailB .any l.toArray n = true)
    (h : wpRel P .any l.toArray Le w.drew (fun F a' => ∀ w', Le w.drew w' → (∀ k, F k w') → wpList P l.toArray Q (l.drop n) a' w') Ts 0 (l.take n) (fun _ _ => True) a) : (Code.region id l.toArray true).wp P Q a w := by
  simp only [Region.lexTailB, Bool.and_eq_true, decide_eq_true_eq] at hB
  obtain ⟨⟨⟨⟨h1, h2⟩, h3⟩, h4⟩, h5⟩ := hB
  have hlt : n < l.length := by simpa using h2
  have hlen : (l.take n).length = n := by rw [List.length_take]; omega
  refine wp_region_any hm ?_
  have inv : HeadInv .any l.toArray n (Array.replicate l.toArray.size false) := ⟨by simp, (fun j oj hj hl => by rw [getD_replicate_false] at hl; cases hl), (fun t ht ht' => by simp at ht'; simp [ht'])⟩
  have key : wpAnyRelT P .any l.toArray Le w.drew (nth Ts ⟨Unit, ⟨()⟩, fun _ => undef, fun _ _ => True, fun _ _ _ _ h => h⟩) n (fun listed' => Region.seqB .any l.toArray (l.toArray.size - n) n listed' = true)
      (fun F a' => ∀ w', Le w.drew w' → (∀ k, F k w') → wpList P l.toArray Q (l.drop n) a' w') (l.take n).length (Array.replicate l.toArray.size false) (fun _ _ => True) a :=
    wpAnyRelT_lex h1 h3 h4 h2 (l.take n) Ts 0 _ _ _ (fun j hj => by rw [hlen] at hj; simp [hj]) (by intro j t hj; simp [nth, hj]) (by omega) inv (by rw [hlen]; exact h5) h
  have hfin := wpAny_of_relT (P := P) (g := (l.drop n).length) ht (Q' := Q) (fun listed F a' w' hl hw hF hq => wpAny_of_seq (l.drop n) n listed a' w' (fun j => by simp [List.getElem?_drop]) (by rw [List.length_drop]; simpa using hl) (hq w' hw hF)) _ _ _ _ _ (hr _) (fun _ _ _ _ h => h) (fun _ => trivial) key
  have e : (l.take n).length + (l.drop n).length = l.length := by rw [← List.length_append, List.take_append_drop]
  rw [e] at hfin
  simpa using hfin
end

/-- a region whose last operations come in one forced order behind all others, which change nothing; the world under a name of one's own -/
theorem still_tail {P : Program} {id : Nat} {Q : Exit → Act → World → Prop} {a : Act} {w : World} {l : List Oper} (n : Nat) (hm : P.follows .mixedOrders = true) (hB : Region.lexTailB .any l.toArray n = true)
    (wd : World) (e : w.drew = wd) (h : wpStill P l.toArray wd (fun a' => wpList P l.toArray Q (l.drop n) a' wd) (l.take n) a) : (Code.region id l.toArray true).wp P Q a w := by
  subst e
  exact wp_region_still_tail n hm hB h
end Go.Proofs.Ytbnnokibjccdaaa
