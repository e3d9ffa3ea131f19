/-
  LAWS: a region that draws its order, walked once in the order of the text, where an operation's value is not known but for its kind: each operation has a type (the values that it may leave, and what then holds in the world from there on), fixed before the walk.
-/
import Derived.Still
import Derived.Below
import Derived.WalkSmall
import Derived.BigQuiet
import Derived.Deep.QuietTactic
import Derived.KernelRfl
import Derived.OwnWalk
import Derived.Laws.AppendOwn
import Derived.Laws.AppendOwnNone
import Derived.WalkKit
import Derived.Handy
import Derived.Lib.Hide
import Derived.Deep.RegionLaw
import Derived.Test.YtheigpiffdabnaaGreatChecked
import Derived.WalkSpells
import Derived.WalkLawsBesides
import Derived.StillTail
set_option linter.unusedVariables false
namespace Go.Proofs.YtheigpiffdabnaaGreat
open Go
/-- what an operation may leave: the value f x for some x, of which φ x holds in the world, then and later -/
structure Ty (Le : World → World → Prop) where
 α : Type
 inh : Nonempty α
 f : α → Value
 φ : α → World → Prop
 mono : ∀ x w w', Le w w' → φ x w → φ x w'
section
variable {P : Program} {ops : Array Oper} {md : Region.Mode} {Le : World → World → Prop}
def relUpon (P : Program) (Le : World → World → Prop) (T : Ty Le) (w : World) : Result Next → Prop
 | .ok (.value u) w' => Le w w' ∧ ∃ x, u = T.f x ∧ T.φ x w'
 | .ok .skip w' => Le w w' ∧ ∃ x, undef = T.f x ∧ T.φ x w'
 | .ok (.enter g args) w' => Le w w' ∧ Calls P g args w' (fun e w'' => ∃ x, e = .returned (T.f x) ∧ Le w' w'' ∧ T.φ x w'')
 | _ => False
/-- what is asked of one operation in one world -/
def relAt (P : Program) (ops : Array Oper) (Le : World → World → Prop) (T : Ty Le) (o : Oper) (a : Act) (w : World) : Prop :=
 if Region.wanted o (yielded ops a.tmps) then relUpon P Le T w ((execOp a.eval o).run P w) else ∃ x, undef = T.f x ∧ T.φ x w
abbrev Facts := Nat → World → Prop
def upd (F : Facts) (i : Nat) (p : World → Prop) : Facts := fun k => if k = i then p else F k
theorem upd_ne (F : Facts) {i k : Nat} (p : World → Prop) (h : k ≠ i) : upd F i p k = F k := by simp [upd, h]
theorem upd_comm (F : Facts) {i j : Nat} (p q : World → Prop) (h : i ≠ j) : upd (upd F i p) j q = upd (upd F j q) i p := by
 funext k
 unfold upd
 by_cases h1 : k = i
 ·subst h1; simp [h]
 ·by_cases h2 : k = j
  ·subst h2; simp [h1]
  ·simp [h1, h2]
/-- what an operation may lean on: the facts of those that it waits for -/
def leans (md : Region.Mode) (o : Oper) (F : Facts) (w : World) : Prop := ∀ e ∈ o.after, Region.binds md e = true → F e.on w
def relOp (P : Program) (md : Region.Mode) (ops : Array Oper) (Le : World → World → Prop) (w0 : World) (T : Nat → Ty Le) (i : Nat) (K : Facts → Act → Prop) (F : Facts) (a : Act) : Prop :=
 match ops[i]? with
 | none => K F a
 | some o => (∀ w, Le w0 w → leans md o F w → relAt P ops Le (T i) o a w) ∧ ∀ x, K (upd F i ((T i).φ x)) (a.put o.dst ((T i).f x))
/-- the walk in the order of the text -/
def wpRel (P : Program) (md : Region.Mode) (ops : Array Oper) (Le : World → World → Prop) (w0 : World) (Q : Facts → Act → Prop) : List (Ty Le) → Nat → List Oper → Facts → Act → Prop
 | _, _, [], F, a => Q F a
 | T :: Ts, k, o :: rest, F, a => (∀ w, Le w0 w → leans md o F w → relAt P ops Le T o a w) ∧ ∀ x, wpRel P md ops Le w0 Q Ts (k + 1) rest (upd F k (T.φ x)) (a.put o.dst (T.f x))
 | [], _, _ :: _, _, _ => False
def wpAnyRel (P : Program) (md : Region.Mode) (ops : Array Oper) (Le : World → World → Prop) (w0 : World) (T : Nat → Ty Le) (Q : Facts → Act → Prop) : Nat → Array Bool → Facts → Act → Prop
 | 0, listed, F, a => Region.ready md ops listed = [] ∧ Q F a
 | fuel + 1, listed, F, a =>
  (Region.ready md ops listed = [] → Q F a) ∧
  ∀ i ∈ Region.ready md ops listed, relOp P md ops Le w0 T i (wpAnyRel P md ops Le w0 T Q fuel (listed.setIfInBounds i true)) F a
variable {w0 : World} {T : Nat → Ty Le}
theorem relAt_put {o : Oper} (hs : ∀ cs b, o.op ≠ .select cs b) {t : Ty Le} {a : Act} {dst : Option Tmp} {v : Value} (h : ∀ d, dst = some d → d ∉ o.looksAt ops) (w : World) :
  relAt P ops Le t o (a.put dst v) w = relAt P ops Le t o a w := by
 unfold relAt
 rw [wanted_put o a dst v h, execOp_put o hs a dst v h]
def Keeps (Le : World → World → Prop) (F : Facts) : Prop := ∀ k w w', Le w w' → F k w → F k w'
theorem Keeps.upd {F : Facts} (h : Keeps Le F) (i : Nat) (t : Ty Le) (x : t.α) : Keeps Le (upd F i (t.φ x)) := by
 intro k w w' hl hf
 unfold Proofs.YtheigpiffdabnaaGreat.upd at *
 split
 ·rename_i hk; rw [if_pos hk] at hf; exact t.mono x w w' hl hf
 ·rename_i hk; rw [if_neg hk] at hf; exact h k w w' hl hf
theorem holds_upd {F : Facts} (h : Keeps Le F) {w w' : World} (hl : Le w w') (hF : ∀ k, F k w) (i : Nat) (t : Ty Le) (x : t.α) (hx : t.φ x w') : ∀ k, upd F i (t.φ x) k w' := by
 intro k
 unfold Proofs.YtheigpiffdabnaaGreat.upd
 split
 ·exact hx
 ·exact h k w w' hl (hF k)
theorem wpOp_of_relOp (ht : ∀ w1 w2 w3, Le w1 w2 → Le w2 w3 → Le w1 w3) {i : Nat} {F : Facts} {a : Act} {K : Facts → Act → Prop} {K' : Act → World → Prop} {Q' : Exit → Act → World → Prop} {w : World}
  (hC : Le w0 w) (hk : Keeps Le F) (hF : ∀ k, F k w) (h : ∀ F a w', Le w0 w' → Keeps Le F → (∀ k, F k w') → K F a → K' a w') (hh : relOp P md ops Le w0 T i K F a) : wpOp P ops Q' i K' a w := by
 unfold relOp at hh
 unfold wpOp
 split
 ·rename_i ho; simp only [ho] at hh; exact h _ _ _ hC hk hF hh
 ·rename_i o ho
  simp only [ho] at hh
  have h1 := hh.1 w hC (fun e _ _ => hF e.on)
  unfold relAt at h1
  split
  ·rename_i hw
   rw [if_pos hw] at h1
   refine .inl ?_
   unfold Oper.wp
   generalize (execOp a.eval o).run P w = r at h1
   cases r with
   | ok n w' =>
    cases n <;> simp only [relUpon] at h1 <;> simp only [Oper.upon]
    case value u =>
     obtain ⟨e1, x, rfl, e3⟩ := h1
     exact h _ _ _ (ht _ _ _ hC e1) (hk.upd i _ x) (holds_upd hk e1 hF i _ x e3) (hh.2 x)
    case skip =>
     obtain ⟨e1, x, e2, e3⟩ := h1
     rw [e2]
     exact h _ _ _ (ht _ _ _ hC e1) (hk.upd i _ x) (holds_upd hk e1 hF i _ x e3) (hh.2 x)
    case enter f args =>
     obtain ⟨e1, hc⟩ := h1
     refine hc.mono ?_
     rintro e w'' ⟨x, rfl, e2, e3⟩
     exact h _ _ _ (ht _ _ _ hC (ht _ _ _ e1 e2)) (hk.upd i _ x) (holds_upd hk (ht _ _ _ e1 e2) hF i _ x e3) (hh.2 x)
   | halt x w' => simp only [relUpon] at h1
  ·rename_i hw
   rw [if_neg hw] at h1
   obtain ⟨x, e2, e3⟩ := h1
   rw [e2]
   have hx := hh.2 x
   refine h _ _ _ hC (hk.upd i _ x) ?_ hx
   intro k
   unfold upd
   split
   ·exact e3
   ·exact hF k
theorem wpAny_of_rel (ht : ∀ w1 w2 w3, Le w1 w2 → Le w2 w3 → Le w1 w3) {Q : Facts → Act → Prop} {Q' : Exit → Act → World → Prop} (hQ : ∀ F a w, Le w0 w → (∀ k, F k w) → Q F a → Q' .normal a w) :
  ∀ (fuel : Nat) (listed : Array Bool) (F : Facts) (a : Act) (w : World), Le w0 w → Keeps Le F → (∀ k, F k w) →
  wpAnyRel P md ops Le w0 T Q fuel listed F a → wpAny P md ops Q' fuel listed a w
 | 0, _, _, _, _, hw, _, hF, h => ⟨h.1, hQ _ _ _ hw hF h.2⟩
 | fuel + 1, _, _, _, _, hw, hk, hF, h => ⟨fun h0 => hQ _ _ _ hw hF (h.1 h0), fun i hi => wpOp_of_relOp ht hw hk hF (fun F' a' w' hw' hk' hF' => wpAny_of_rel ht hQ fuel _ F' a' w' hw' hk' hF') (h.2 i hi)⟩
/-- an operation that may come up now may be taken first -/
theorem wpAnyRel_first {Q : Facts → Act → Prop} {i : Nat} {oi : Oper} (hi : ops[i]? = some oi) (hsel : ∀ (j : Nat) (o : Oper) cs b, ops[j]? = some o → o.op ≠ .select cs b) :
  ∀ (fuel : Nat) (listed : Array Bool) (F : Facts) (a : Act),
   (∀ j oj, ops[j]? = some oj → j ≠ i → listed.getD j true = false → (∀ e ∈ oj.after, Region.binds md e = true → e.on ≠ i) → oi.apart ops oj = true) →
   i ∈ Region.ready md ops listed → (∀ w, Le w0 w → leans md oi F w → relAt P ops Le (T i) oi a w) →
   (∀ x, wpAnyRel P md ops Le w0 T Q fuel (listed.setIfInBounds i true) (upd F i ((T i).φ x)) (a.put oi.dst ((T i).f x))) → wpAnyRel P md ops Le w0 T Q (fuel + 1) listed F a := by
 intro fuel
 induction fuel with
 | zero =>
  intro listed F a _ hr hy H
  refine ⟨fun h => (by rw [h] at hr; cases hr), fun j hj => ?_⟩
  by_cases hji : j = i
  ·subst hji; unfold relOp; simp only [hi]; exact ⟨hy, H⟩
  ·obtain ⟨x⟩ := (T i).inh
   have := ready_mono hj hji
   rw [(H x).1] at this
   cases this
 | succ fuel ih =>
  intro listed F a hfree hr hy H
  refine ⟨fun h => (by rw [h] at hr; cases hr), fun j hj => ?_⟩
  by_cases hji : j = i
  ·subst hji; unfold relOp; simp only [hi]; exact ⟨hy, H⟩
  ·obtain ⟨hjun, oj, hoj, hall⟩ := mem_ready.1 hj
   have hnot : ∀ e ∈ oj.after, Region.binds md e = true → e.on ≠ i := fun e he hb heq => by
    have h1 := hall e he hb
    have h0 := (mem_ready.1 hr).1
    rw [heq] at h1
    rcases Nat.lt_or_ge i listed.size with h' | h'
    ·simp [h'] at h0 h1; rw [h0] at h1; cases h1
    ·simp [Array.getElem?_eq_none h'] at h1
   have hnoti : ∀ e ∈ oi.after, Region.binds md e = true → e.on ≠ j := fun e he hb heq => by
    obtain ⟨hiun, oi', hoi', halli⟩ := mem_ready.1 hr
    rw [hi] at hoi'
    cases hoi'
    have h1 := halli e he hb
    rw [heq] at h1
    rcases Nat.lt_or_ge j listed.size with h' | h'
    ·simp [h'] at hjun h1; rw [hjun] at h1; cases h1
    ·simp [Array.getElem?_eq_none h'] at h1
   obtain ⟨p1, p2, p3⟩ := Oper.apart_spec (hfree j oj hoj hji hjun hnot)
   have HJ : ∀ x, (∀ w, Le w0 w → leans md oj (upd F i ((T i).φ x)) w → relAt P ops Le (T j) oj (a.put oi.dst ((T i).f x)) w) ∧
     ∀ y, wpAnyRel P md ops Le w0 T Q fuel ((listed.setIfInBounds i true).setIfInBounds j true) (upd (upd F i ((T i).φ x)) j ((T j).φ y)) ((a.put oi.dst ((T i).f x)).put oj.dst ((T j).f y)) := by
    intro x
    have h1 := (H x).2 j (ready_mono hj hji)
    unfold relOp at h1
    simp only [hoj] at h1
    exact h1
   unfold relOp
   simp only [hoj]
   refine ⟨fun w hw hl => ?_, fun y => ?_⟩
   ·obtain ⟨x⟩ := (T i).inh
    have h1 := (HJ x).1 w hw (fun e he hb => by rw [upd_ne _ _ (hnot e he hb)]; exact hl e he hb)
    rwa [relAt_put (fun cs b => hsel j oj cs b hoj) p1] at h1
   ·have hfree' : ∀ k ok, ops[k]? = some ok → k ≠ i → (listed.setIfInBounds j true).getD k true = false →
        (∀ e ∈ ok.after, Region.binds md e = true → e.on ≠ i) → oi.apart ops ok = true := fun k ok hk hki hun hno => by
     refine hfree k ok hk hki ?_ hno
     by_cases hjk : j = k
     ·subst hjk; exact hjun
     ·rw [getD_set_ne true hjk] at hun; exact hun
    refine ih (listed.setIfInBounds j true) _ _ hfree' (ready_mono hr (Ne.symm hji)) ?_ ?_
    ·intro w hw hl
     rw [relAt_put (fun cs b => hsel i oi cs b hi) p3]
     exact hy w hw (fun e he hb => by have := hl e he hb; rwa [upd_ne _ _ (hnoti e he hb)] at this)
    ·intro x
     have h1 := (HJ x).2 y
     rw [Array.setIfInBounds_comm _ _ hji, upd_comm _ _ _ hji, ← Act.put_comm a _ _ p2]
     exact h1
def nth (Ts : List (Ty Le)) (d : Ty Le) (k : Nat) : Ty Le := Ts.getD k d
theorem wpAnyRel_lex {Q : Facts → Act → Prop} (hs : Region.noSelect ops = true) : ∀ (l : List Oper) (Ts : List (Ty Le)) (k : Nat) (listed : Array Bool) (F : Facts) (a : Act), (∀ j, l[j]? = ops[k + j]?) → (∀ j t, Ts[j]? = some t → T (k + j) = t) →
  Region.lexFrom md ops l.length k listed = true → wpRel P md ops Le w0 Q Ts k l F a → wpAnyRel P md ops Le w0 T Q l.length listed F a
 | [], _, _, _, _, _, _, _, hB, h => by
  cases ‹List (Ty Le)› <;> exact ⟨by simpa [Region.lexFrom] using hB, by simpa [wpRel] using h⟩
 | o :: l, [], _, _, _, _, _, _, _, h => by simp [wpRel] at h
 | o :: l, t :: Ts, k, listed, F, a, hl, hT, hB, h => by
  have h0 : ops[k]? = some o := by simpa using (hl 0).symm
  have hTk : T k = t := by simpa using hT 0 t (by simp)
  simp only [List.length_cons, Region.lexFrom, Bool.and_eq_true] at hB
  obtain ⟨⟨hr, hf⟩, hB'⟩ := hB
  simp only [wpRel] at h
  subst hTk
  exact wpAnyRel_first h0 (Region.noSelect_spec hs) l.length listed F a (Region.free_spec h0 hf) (by simpa using hr) h.1
   (fun x => wpAnyRel_lex hs l Ts (k + 1) _ _ _ (fun j => by have := hl (j + 1); simpa [Nat.add_assoc, Nat.add_comm 1 j] using this)
    (fun j t ht => by have := hT (j + 1) t (by simpa using ht); simpa [Nat.add_assoc, Nat.add_comm 1 j] using this) hB' (h.2 x))
/-- one walk in the order of the text serves every order -/
theorem wp_region_rel (hr : ∀ w, Le w w) (ht : ∀ w1 w2 w3, Le w1 w2 → Le w2 w3 → Le w1 w3) {id : Nat} {Q : Exit → Act → World → Prop} {a : Act} {w : World} {l : List Oper} (Ts : List (Ty Le)) (hm : P.follows .mixedOrders = true) (hB : Region.lexB .any l.toArray = true)
  (h : wpRel P .any l.toArray Le w.drew (fun F a' => ∀ w', Le w.drew w' → (∀ k, F k w') → Q .normal a' w') Ts 0 l (fun _ _ => True) a) : (Code.region id l.toArray true).wp P Q a w := by
 simp only [Region.lexB, Bool.and_eq_true] at hB
 have key : wpAnyRel P .any l.toArray Le w.drew (nth Ts ⟨Unit, ⟨()⟩, fun _ => undef, fun _ _ => True, fun _ _ _ _ h => h⟩) (fun F a' => ∀ w', Le w.drew w' → (∀ k, F k w') → Q .normal a' w') l.length (Array.replicate l.toArray.size false) (fun _ _ => True) a :=
  wpAnyRel_lex hB.1 l Ts 0 _ _ _ (by simp) (by intro j t hj; simp [nth, hj]) (by simpa using hB.2) h
 refine wp_region_any hm ?_
 exact wpAny_of_rel ht (Q := fun F a' => ∀ w', Le w.drew w' → (∀ k, F k w') → Q .normal a' w') (fun F a' w' hw' hF hq => hq w' hw' hF) _ _ _ _ _ (hr _) (fun _ _ _ _ h => h) (fun _ => trivial) (by simpa using key)
theorem wpRel_nil {Q : Facts → Act → Prop} {Ts : List (Ty Le)} {k : Nat} {F : Facts} {a : Act} (h : Q F a) : wpRel P md ops Le w0 Q Ts k [] F a := by
 cases Ts <;> exact h
theorem wpRel_cons {Q : Facts → Act → Prop} {t : Ty Le} {Ts : List (Ty Le)} {k : Nat} {o : Oper} {rest : List Oper} {F : Facts} {a : Act}
  (h1 : ∀ w, Le w0 w → leans md o F w → relAt P ops Le t o a w) (h2 : ∀ x, wpRel P md ops Le w0 Q Ts (k + 1) rest (upd F k (t.φ x)) (a.put o.dst (t.f x))) : wpRel P md ops Le w0 Q (t :: Ts) k (o :: rest) F a := ⟨h1, h2⟩
/-- one value -/
def tyIs (Le : World → World → Prop) (v : Value) : Ty Le := ⟨Unit, ⟨()⟩, fun _ => v, fun _ _ => True, fun _ _ _ _ h => h⟩
/-- a value of some kind, whatever the world -/
def tyOf (Le : World → World → Prop) {α : Type} (inh : Nonempty α) (f : α → Value) : Ty Le := ⟨α, inh, f, fun _ _ => True, fun _ _ _ _ h => h⟩
end
end Go.Proofs.YtheigpiffdabnaaGreat
namespace Go.Proofs.YtheigpiffdabnaaGreat
open Go Go.RowKit
theorem ret_bool {a b : Bool} (h : a = b) : Ending.returned (.bool a) = .returned (.bool b) := by rw [h]
theorem ret_int {k : IntKind} {a b : Int} (h : a = b) : Ending.returned (.int k a) = .returned (.int k b) := by rw [h]
theorem drew_below {B : Nat} {w : World} (n : Nat) : Below B w (w.drewN n) := below_drewN (Below.refl _ _) n
theorem below_box (w : World) (o : Obj) : Below w.heap.size w (w.alloc o) := (Below.refl _ _).alloc (Nat.le_refl _) o
theorem bnext {w w1 w2 : World} (h : Below w.heap.size w w1) (k : Below w1.heap.size w1 w2) : Below w.heap.size w w2 := h.trans (k.mono h.size)
theorem add_lit (b off j : Nat) : (⟨b, off, none⟩ : Addr).add j = ⟨b, off + j, none⟩ := by unfold Addr.add; split <;> simp_all
/-- the cells from ⟨b, off⟩ on hold these values -/
def CellsAt (w : World) (b off : Nat) (cs : List Value) : Prop := ∀ j v, cs[j]? = some v → w.cell? ⟨b, off + j, none⟩ = some v
theorem CellsAt.below {w w' : World} {b off : Nat} {cs : List Value} (h : CellsAt w b off cs) (hb : Below w.heap.size w w') : CellsAt w' b off cs := by
 intro j v hv
 have := h j v hv
 rw [hb.cell (World.block_lt_of_cell? w _ this)]
 exact this
theorem CellsAt.drewN {w : World} {b off : Nat} {cs : List Value} (h : CellsAt w b off cs) (n : Nat) : CellsAt (w.drewN n) b off cs := h.below (drew_below n)
/-- how an element lies in cells -/
structure Enc (α : Type) where
 cells : α → List Value
 size : Nat
 len : ∀ x, (cells x).length = size
 one : ∀ x, ∀ v ∈ cells x, v.oneCell' = true
 pos : 0 < size
namespace Enc
variable {α : Type} (E : Enc α)
def all (L : List α) : List Value := L.flatMap E.cells
theorem all_nil : E.all [] = [] := rfl
theorem all_cons (x : α) (L : List α) : E.all (x :: L) = E.cells x ++ E.all L := by simp [all]
theorem all_append (L M : List α) : E.all (L ++ M) = E.all L ++ E.all M := by simp [all]
theorem all_length (L : List α) : (E.all L).length = L.length * E.size := by
 induction L with
 | nil => simp [all]
 | cons x L ih => rw [all_cons, List.length_append, ih, E.len, List.length_cons, Nat.succ_mul]; omega
theorem all_one (L : List α) : ∀ v ∈ E.all L, v.oneCell' = true := by
 intro v hv
 simp only [all, List.mem_flatMap] at hv
 obtain ⟨x, _, h⟩ := hv
 exact E.one x v h
theorem all_at (L : List α) (i : Nat) (h : i < L.length) (k : Nat) (hk : k < E.size) : (E.all L)[i * E.size + k]? = (E.cells L[i])[k]? := by
 induction L generalizing i with
 | nil => simp at h
 | cons x L ih =>
  rw [all_cons]
  cases i with
  | zero =>
   rw [Nat.zero_mul, Nat.zero_add, List.getElem?_append_left (by rw [E.len]; exact hk)]
   simp
  | succ i =>
   rw [List.getElem?_append_right (by rw [E.len, Nat.succ_mul]; omega), E.len]
   rw [show (i + 1) * E.size + k - E.size = i * E.size + k by rw [Nat.succ_mul]; omega]
   rw [ih i (by simpa using h)]
   simp
end Enc
/-- v is a slice that reads as L in the world w -/
def SlIs {α : Type} (E : Enc α) (w : World) (v : Value) (L : List α) : Prop :=
 ∃ p cap, v = .slice p L.length cap ∧ L.length ≤ cap ∧ cap ≤ maxLen ∧ (0 < L.length → ∃ b off, p = some ⟨b, off, none⟩ ∧ CellsAt w b off (E.all L))
theorem SlIs.isNil {α : Type} (E : Enc α) (w : World) : SlIs E w (.slice none 0 0) [] := ⟨_, _, rfl, Nat.le_refl _, Nat.zero_le _, fun h => absurd h (by simp)⟩
theorem SlIs.below {α : Type} {E : Enc α} {w w' : World} {v : Value} {L : List α} (h : SlIs E w v L) (hb : Below w.heap.size w w') : SlIs E w' v L := by
 obtain ⟨p, cap, h1, h2, h3, h4⟩ := h
 exact ⟨p, cap, h1, h2, h3, fun h0 => by obtain ⟨b, off, e, hc⟩ := h4 h0; exact ⟨b, off, e, hc.below hb⟩⟩
theorem SlIs.lies {α : Type} {E : Enc α} {w : World} {p : Option Addr} {n cap : Nat} {L : List α} (h : SlIs E w (.slice p n cap) L) : n = L.length ∧ n ≤ cap ∧ cap ≤ maxLen ∧ (0 < n → ∃ b off, p = some ⟨b, off, none⟩ ∧ CellsAt w b off (E.all L)) := by
 obtain ⟨p', cap', e, h1, h2, h3⟩ := h
 simp only [Value.slice.injEq] at e
 obtain ⟨rfl, rfl, rfl⟩ := e
 exact ⟨rfl, h1, h2, h3⟩
theorem CellsAt.elem {α : Type} {E : Enc α} {w : World} {b off : Nat} {L : List α} (h : CellsAt w b off (E.all L)) (i : Nat) (hi : i < L.length) (k : Nat) (hk : k < E.size) (v : Value) (hv : (E.cells L[i])[k]? = some v) : w.cell? ⟨b, off + i * E.size + k, none⟩ = some v := by
 have := h (i * E.size + k) v (by rw [E.all_at L i hi k hk]; exact hv)
 rwa [← Nat.add_assoc] at this
/-- a slice of the call's own that reads as L -/
def OwnL {α : Type} (E : Enc α) (t : TypeId) (w : World) (base : Nat) (v : Value) (L : List α) : Prop := w.ownsRow base t E.size v L.length (E.all L)
theorem OwnL.isNil {α : Type} (E : Enc α) (t : TypeId) (w : World) (base : Nat) : OwnL E t w base (.slice none 0 0) [] := World.ownsRow_nil w base _ _
theorem OwnL.alloc {α : Type} {E : Enc α} {t : TypeId} {w : World} {base : Nat} {v : Value} {L : List α} (h : OwnL E t w base v L) (o : Obj) : OwnL E t (w.alloc o) base v L := World.ownsRow.alloc h o
theorem OwnL.sl {α : Type} {E : Enc α} {t : TypeId} {w : World} {base : Nat} {v : Value} {L : List α} (h : OwnL E t w base v L) : SlIs E w v L := by
 obtain ⟨h1, h2 | ⟨g, cap, cur, e, hb, hg, hn, hm, hs, ht⟩⟩ := h
 ·obtain ⟨e, h0⟩ := h2
  have : L = [] := List.eq_nil_of_length_eq_zero h0
  subst this; subst e
  exact SlIs.isNil E w
 ·subst e
  refine ⟨_, cap, rfl, hn, hm, fun _ => ⟨g, 0, rfl, ?_⟩⟩
  intro j v hv
  rw [cell_of_row w g (0 + j) cur _ (0, 0) hg]
  rw [← ht, List.getElem?_take] at hv
  split at hv
  ·simpa using hv
  ·cases hv
theorem OwnL.grown_below {α : Type} {E : Enc α} {t : TypeId} {w w' : World} {base : Nat} {v : Value} {L : List α} (h : OwnL E t w base v L) (hg : w.grownBy w' v.ownBlock) (hb : base ≤ w.heap.size) : Below base w w' :=
 (Below.refl base w).grown hg hb (fun k hk => (World.ownsRow.lt h k hk).1)
theorem OwnL.drewN {α : Type} {E : Enc α} {t : TypeId} {w : World} {base : Nat} {v : Value} {L : List α} (h : OwnL E t w base v L) (n : Nat) : OwnL E t (w.drewN n) base v L := h
/-- a callee that leaves all that is there leaves the slice of the call's own -/
theorem OwnL.below {α : Type} {E : Enc α} {t : TypeId} {w w' : World} {base : Nat} {v : Value} {L : List α} (h : OwnL E t w base v L) (hb : Below w.heap.size w w') : OwnL E t w' base v L := by
 obtain ⟨h1, h2 | ⟨g, cap, cur, e, hb', hg, rest⟩⟩ := h
 ·exact ⟨h1, .inl h2⟩
 ·have hlt : g < w.heap.size := by
   by_cases hlt : g < w.heap.size
   ·exact hlt
   ·rw [Array.getElem?_eq_none (by omega)] at hg; cases hg
  exact ⟨h1, .inr ⟨g, cap, cur, e, hb', by rw [hb.block g hlt]; exact hg, rest⟩⟩
/-- the elements M lie from p on -/
def LiesL {α : Type} (E : Enc α) (w : World) (p : Option Addr) (M : List α) : Prop := 0 < M.length → ∃ b off, p = some ⟨b, off, none⟩ ∧ CellsAt w b off (E.all M)
theorem wpList_appendL {α : Type} {E : Enc α} {P : Program} {w : World} {ops : Array Oper} {rest : List Oper} {o : Oper} {a : Act} {Q : Exit → Act → World → Prop} {sT eT : TypeId} {z : Value} {bytes : Nat}
  (hu : P.underlying sT = some (.slice eT)) (hinfo : (P.info? eT).map (fun i => (i.zero, i.size, i.bytes)) = some (some z, E.size, bytes)) (hzs : z.cells.size = E.size)
  (hgd : o.guard = none) (s x : Operand)
  (ho : o.op = .call { callee := .builtin .append, args := #[s, x], argTypes := #[sT, sT] })
  (base : Nat) (v : Value) (L : List α) (hs : a.eval s = v) (hown : OwnL E eT w base v L) (p : Option Addr) (m c : Nat) (M : List α) (hx : a.eval x = .slice p m c) (hM : m = M.length) (hl : LiesL E w p M) (hp : p = none → c = 0)
  (hL : Hid (L.length + M.length ≤ maxLen)) (hL2 : Hid ((L.length + M.length) * bytes ≤ 140737488355328)) (hbase : base ≤ w.heap.size)
  (h : ∀ v' w', OwnL E eT w' base v' (L ++ M) → Below base w w' → wpList P ops Q rest (a.put o.dst v') w') : wpList P ops Q (o :: rest) a w := by
 obtain ⟨i0, hi, hz0, hz1, hz2⟩ := info_parts hinfo
 subst hM
 by_cases h0 : M = []
 ·subst h0
  cases p with
  | none =>
   have hc0 := hp rfl
   subst hc0
   exact wpList_append_own_none hgd s x _ ho base eT i0 E.size hu hi v L.length (E.all L) hs hown hx (h v w (by simpa using hown) (Below.refl _ _))
  | some ad =>
   refine wpList_append_own w hgd s x sT ho base eT i0 _ E.size bytes hu hi hz0 hz1 hz2 hzs E.pos v L.length (E.all L) hs hown ad 0 c [] hx (by simp) (fun j u hu => by simp at hu) (fun u hu => by simp at hu) hL.out hL2.out hbase ?_
   intro v' w' h1 h2 _
   exact h v' w' (by simpa [OwnL] using h1) (hown.grown_below h2 hbase)
 ·obtain ⟨b, off, rfl, hcl⟩ := hl (List.length_pos_iff.2 h0)
  refine wpList_append_own w hgd s x sT ho base eT i0 _ E.size bytes hu hi hz0 hz1 hz2 hzs E.pos v L.length (E.all L) hs hown ⟨b, off, none⟩ M.length c (E.all M) hx (E.all_length M) (fun j u hu => by rw [add_lit]; exact hcl j u hu) (E.all_one M) hL.out hL2.out hbase ?_
  intro v' w' h1 h2 _
  refine h v' w' ?_ (hown.grown_below h2 hbase)
  unfold OwnL
  rw [List.length_append, E.all_append]
  exact h1
end Go.Proofs.YtheigpiffdabnaaGreat
namespace Go.Proofs.YtheigpiffdabnaaGreat
open Go.RowKit
/-- made.Mod: a number from 0 on, below n -/
theorem mod_any (x n : Int) (h1 : 1 ≤ n) (h2 : n ≤ 4611686018427387904) (hx : -9223372036854775808 ≤ x) (hx2 : x ≤ 9223372036854775807) :
  ∃ k : Int, (∀ w : World, Calls Tryz.prog 9 #[.int .i64 x, .int .i64 n] w fun e w' => e = .returned (.int .i64 k) ∧ w = w') ∧ 0 ≤ k ∧ k < n := by
 by_cases h0 : 0 ≤ x
 ·have b1 := Int.emod_nonneg x (show n ≠ 0 by omega)
  have b2 := Int.emod_lt_of_pos x (show 0 < n by omega)
  refine ⟨x % n, fun w => ?_, b1, b2⟩
  go_enter Tryz.func9, Tryz.ntmps9
  go_wp2
  go_ret
  exact ⟨rfl, rfl⟩
 ·have b1 : -n < x.tmod n := by have := Int.lt_tmod_of_pos x (show 0 < n by omega); omega
  have b2 : x.tmod n ≤ 0 := by
   have := Int.tmod_nonneg (a := -x) n (by omega)
   rw [Int.neg_tmod] at this
   omega
  have e1 : IntKind.i64.wrap (x.tmod n) = x.tmod n := IntWalk.i64_in _ (by omega)
  have hm : ∀ w : World, Calls Tryz.prog 9 #[.int .i64 x, .int .i64 n] w fun e w' => e = .returned (.int .i64 (if x.tmod n < 0 then x.tmod n + n else x.tmod n)) ∧ w = w' := by
   intro w
   by_cases hz : x.tmod n < 0
   ·rw [if_pos hz]
    go_enter Tryz.func9, Tryz.ntmps9
    go_wp2
    go_ret
    exact ⟨rfl, rfl⟩
   ·rw [if_neg hz]
    go_enter Tryz.func9, Tryz.ntmps9
    go_wp2
    go_ret
    exact ⟨rfl, rfl⟩
  refine ⟨_, hm, ?_, ?_⟩
  ·split <;> omega
  ·split <;> omega
end Go.Proofs.YtheigpiffdabnaaGreat
namespace Go.Proofs.YtheigpiffdabnaaGreat
open Go Go.RowKit
/-- of what was there all is as it was, but for the cells of M -/
structure But (M : Addr → Prop) (w w' : World) : Prop where
 os : w'.os = w.os
 tape : w'.tape = w.tape
 output : w'.output = w.output
 size : w.heap.size ≤ w'.heap.size
 cell : ∀ a : Addr, a.block < w.heap.size → ¬ M a → w'.cell? a = w.cell? a
 frozen : ∀ a : Addr, a.block < w.heap.size → w'.frozen? a = w.frozen? a
 block : ∀ k, k < w.heap.size → (∀ a : Addr, a.block = k → ¬ M a) → w'.heap[k]? = w.heap[k]?
theorem But.refl (M : Addr → Prop) (w : World) : But M w w := ⟨rfl, rfl, rfl, Nat.le_refl _, fun _ _ _ => rfl, fun _ _ => rfl, fun _ _ _ => rfl⟩
theorem But.trans {M : Addr → Prop} {a b c : World} (h : But M a b) (k : But M b c) : But M a c :=
 ⟨k.os.trans h.os, k.tape.trans h.tape, k.output.trans h.output, Nat.le_trans h.size k.size,
  fun x hx hm => (k.cell x (Nat.lt_of_lt_of_le hx h.size) hm).trans (h.cell x hx hm),
  fun x hx => (k.frozen x (Nat.lt_of_lt_of_le hx h.size)).trans (h.frozen x hx),
  fun x hx hm => (k.block x (Nat.lt_of_lt_of_le hx h.size) hm).trans (h.block x hx hm)⟩
theorem But.mono {M N : Addr → Prop} {w w' : World} (h : But M w w') (hM : ∀ a, M a → N a) : But N w w' :=
 ⟨h.os, h.tape, h.output, h.size, fun x hx hm => h.cell x hx (fun k => hm (hM x k)), h.frozen, fun k hk hm => h.block k hk (fun a ha q => hm a ha (hM a q))⟩
theorem But.of_below {M : Addr → Prop} {w w' : World} (h : Below w.heap.size w w') : But M w w' :=
 ⟨h.os, h.tape, h.output, h.size, fun x hx _ => h.cell hx, fun x hx => h.frozen hx, fun k hk _ => h.block k hk⟩
theorem But.below {M : Addr → Prop} {w w' : World} {B : Nat} (h : But M w w') (hB : B ≤ w.heap.size) (hM : ∀ a, M a → B ≤ a.block) : Below B w w' :=
 ⟨h.os, h.tape, h.output, h.size, fun k hk => h.block k (by omega) (fun a ha q => by have := hM a q; omega)⟩
theorem But.drew {M : Addr → Prop} (w : World) : But M w w.drew := ⟨rfl, rfl, rfl, Nat.le_refl _, fun _ _ _ => rfl, fun _ _ => rfl, fun _ _ _ => rfl⟩
theorem But.drewN {M : Addr → Prop} (w : World) (n : Nat) : But M w (w.drewN n) := ⟨rfl, rfl, rfl, Nat.le_refl _, fun _ _ _ => rfl, fun _ _ => rfl, fun _ _ _ => rfl⟩
theorem But.alloc {M : Addr → Prop} (w : World) (o : Obj) : But M w (w.alloc o) := But.of_below ((Below.refl _ _).alloc (Nat.le_refl _) o)
theorem But.setCell {M : Addr → Prop} (w : World) (a : Addr) (u : Value) (h : M a) : But M w (w.setCell a u) := by
 refine ⟨rfl, rfl, rfl, by simp [World.setCell], fun x hx hm => World.cell?_setCell_other _ _ _ _ (fun e => hm (e ▸ h)), fun x hx => World.frozen?_setCell _ _ _ _, fun k hk hm => ?_⟩
 exact Below.heap_setCell _ _ _ _ (fun e => hm a e.symm h)
/-- a store into a block that is new -/
theorem But.setCell_new {M : Addr → Prop} {w w' : World} (h : But M w w') (a : Addr) (u : Value) (ha : w.heap.size ≤ a.block) : But M w (w'.setCell a u) :=
 ⟨h.os, h.tape, h.output, by simpa [World.setCell] using h.size,
  fun x hx hm => (World.cell?_setCell_other _ _ _ _ (fun e => by subst e; omega)).trans (h.cell x hx hm),
  fun x hx => (World.frozen?_setCell _ _ _ _).trans (h.frozen x hx),
  fun k hk hm => (Below.heap_setCell _ _ _ _ (by omega)).trans (h.block k hk hm)⟩
theorem But.keep {M : Addr → Prop} {w w' : World} (h : But M w w') {a : Addr} {v : Value} (hc : w.cell? a = some v) (hm : ¬ M a) : w'.cell? a = some v := by
 rw [h.cell a (World.block_lt_of_cell? w _ hc) hm]; exact hc
/-- numbers in a row: the dice's list -/
def Rolls (w : World) (p : Option Addr) (n : Nat) : Prop :=
 ∀ i, i < n → ∃ b o, p = some ⟨b, o, none⟩ ∧ ∃ x : Int, -9223372036854775808 ≤ x ∧ x ≤ 9223372036854775807 ∧ w.cell? ⟨b, o + i, none⟩ = some (.int .i64 x)
/-- dice: their block, and the numbers that they give -/
structure Dice where
 D : Nat
 p : Option Addr
 n : Nat
 cap : Nat
/-- how many numbers have been given out -/
def atOf (D : Nat) (w : World) : Nat := match w.cell? ⟨D, 1, none⟩ with | some (.int _ k) => k.toNat | _ => 0
def isAt (D : Nat) (a : Addr) : Prop := a = ⟨D, 1, none⟩
/-- the dice lie there -/
structure DiceAt (d : Dice) (w : World) : Prop where
 few : d.n ≤ 400
 row : w.cell? ⟨d.D, 0, none⟩ = some (.slice d.p d.n d.cap)
 at_ : w.cell? ⟨d.D, 1, none⟩ = some (.int .i64 (atOf d.D w : Nat))
 le : atOf d.D w ≤ d.n
 rolls : Rolls w d.p d.n
 away : ∀ b o, d.p = some ⟨b, o, none⟩ → b ≠ d.D
 warm : w.frozen? ⟨d.D, 1, none⟩ = false
theorem atOf_eq {D : Nat} {w : World} {k : Nat} (h : w.cell? ⟨D, 1, none⟩ = some (.int .i64 (k : Int))) : atOf D w = k := by
 unfold atOf; rw [h]; rfl
theorem Rolls.keep {M : Addr → Prop} {w w' : World} {p : Option Addr} {n : Nat} (h : Rolls w p n) (hb : But M w w') (hm : ∀ b o i, p = some ⟨b, o, none⟩ → ¬ M ⟨b, i, none⟩) : Rolls w' p n := by
 intro i hi
 obtain ⟨b, o, hp, x, h1, h2, hc⟩ := h i hi
 exact ⟨b, o, hp, x, h1, h2, hb.keep hc (hm b o _ hp)⟩
/-- the dice after something that turned no more than the count -/
theorem DiceAt.keep {M : Addr → Prop} {d : Dice} {w w' : World} (h : DiceAt d w) (hb : But M w w') (h0 : ¬ M ⟨d.D, 0, none⟩) (hm : ∀ b o i, d.p = some ⟨b, o, none⟩ → ¬ M ⟨b, i, none⟩)
  {k : Nat} (hk : w'.cell? ⟨d.D, 1, none⟩ = some (.int .i64 (k : Int))) (hn : k ≤ d.n) : DiceAt d w' := by
 have e := atOf_eq hk
 refine ⟨h.few, hb.keep h.row h0, by rw [e]; exact hk, by omega, h.rolls.keep hb hm, h.away, ?_⟩
 rw [hb.frozen _ (World.block_lt_of_cell? w _ h.at_)]
 exact h.warm
theorem DiceAt.still {M : Addr → Prop} {d : Dice} {w w' : World} (h : DiceAt d w) (hb : But M w w') (hm : ∀ b o i, d.p = some ⟨b, o, none⟩ → ¬ M ⟨b, i, none⟩) (h0 : ∀ i, ¬ M ⟨d.D, i, none⟩) : DiceAt d w' ∧ atOf d.D w' = atOf d.D w := by
 have hk := hb.keep h.at_ (h0 1)
 exact ⟨h.keep hb (h0 0) hm hk h.le, atOf_eq hk⟩
/-- what a throw does: the count goes on by one, or the numbers are used up -/
structure Thrown (d : Dice) (w w' : World) : Prop where
 but : But (isAt d.D) w w'
 good : DiceAt d w'
 le : atOf d.D w ≤ atOf d.D w'
theorem Thrown.refl {d : Dice} {w : World} (h : DiceAt d w) : Thrown d w w := ⟨But.refl _ _, h, Nat.le_refl _⟩
theorem Thrown.trans {d : Dice} {a b c : World} (h : Thrown d a b) (k : Thrown d b c) : Thrown d a c := ⟨h.but.trans k.but, k.good, Nat.le_trans h.le k.le⟩
theorem thrown_drewN {d : Dice} {w : World} (h : DiceAt d w) (m : Nat) : Thrown d w (w.drewN m) := by
 have hb : But (fun _ => False) w (w.drewN m) := But.drewN w m
 have hs := h.still hb (fun _ _ _ _ q => q) (fun _ q => q)
 exact ⟨hb.mono (fun _ q => q.elim), hs.1, by omega⟩
/-- a throw that gives a number out -/
theorem thrown_set {d : Dice} {w : World} (h : DiceAt d w) (hlt : atOf d.D w < d.n) (m : Nat) : Thrown d w ((w.setCell ⟨d.D, 1, none⟩ (.int .i64 ((atOf d.D w : Nat) + 1 : Nat))).drewN m) ∧ atOf d.D ((w.setCell ⟨d.D, 1, none⟩ (.int .i64 ((atOf d.D w : Nat) + 1 : Nat))).drewN m) = atOf d.D w + 1 := by
 have hb : But (isAt d.D) w ((w.setCell ⟨d.D, 1, none⟩ (.int .i64 ((atOf d.D w : Nat) + 1 : Nat))).drewN m) := (But.setCell (M := isAt d.D) w ⟨d.D, 1, none⟩ _ rfl).trans (But.drewN _ m)
 have hk : ((w.setCell ⟨d.D, 1, none⟩ (.int .i64 ((atOf d.D w : Nat) + 1 : Nat))).drewN m).cell? ⟨d.D, 1, none⟩ = some (.int .i64 ((atOf d.D w : Nat) + 1 : Nat)) := World.cell?_setCell_same _ _ _ h.at_
 refine ⟨⟨hb, h.keep hb (by simp [isAt]) ?_ hk (by omega), ?_⟩, atOf_eq hk⟩
 ·intro b o i hp q
  unfold isAt at q
  injection q with q1 q2 q3
  exact h.away b o hp q1
 ·rw [atOf_eq hk]; omega
end Go.Proofs.YtheigpiffdabnaaGreat
namespace Go.Proofs.YtheigpiffdabnaaGreat
open Go
section
variable {P : Program} {ops : Array Oper} {md : Region.Mode} {Le : World → World → Prop} {w0 : World} {T : Nat → Ty Le}
def wpAnyRelT (P : Program) (md : Region.Mode) (ops : Array Oper) (Le : World → World → Prop) (w0 : World) (T : Nat → Ty Le) (n : Nat) (Lc : Array Bool → Prop) (Q : Facts → Act → Prop) : Nat → Array Bool → Facts → Act → Prop
 | 0, listed, F, a => Lc listed ∧ Q F a
 | fuel + 1, listed, F, a => Region.ready md ops listed ≠ [] ∧ ∀ i ∈ Region.ready md ops listed, i < n ∧ relOp P md ops Le w0 T i (wpAnyRelT P md ops Le w0 T n Lc Q fuel (listed.setIfInBounds i true)) F a
theorem wpAny_of_relT (ht : ∀ w1 w2 w3, Le w1 w2 → Le w2 w3 → Le w1 w3) {n g : Nat} {Lc : Array Bool → Prop} {Q : Facts → Act → Prop} {Q' : Exit → Act → World → Prop}
  (hQ : ∀ listed F a w, Lc listed → Le w0 w → (∀ k, F k w) → Q F a → wpAny P md ops Q' g listed a w) :
  ∀ (fuel : Nat) (listed : Array Bool) (F : Facts) (a : Act) (w : World), Le w0 w → Keeps Le F → (∀ k, F k w) →
  wpAnyRelT P md ops Le w0 T n Lc Q fuel listed F a → wpAny P md ops Q' (fuel + g) listed a w
 | 0, _, _, _, _, hw, _, hF, h => by rw [Nat.zero_add]; exact hQ _ _ _ _ h.1 hw hF h.2
 | fuel + 1, _, _, _, _, hw, hk, hF, h => by
  rw [show fuel + 1 + g = (fuel + g) + 1 by omega]
  exact ⟨fun h0 => absurd h0 h.1, fun i hi => wpOp_of_relOp ht hw hk hF (fun F' a' w' hw' hk' hF' => wpAny_of_relT ht hQ fuel _ F' a' w' hw' hk' hF') (h.2 i hi).2⟩
theorem wpAnyRelT_first {n : Nat} {Lc : Array Bool → Prop} {Q : Facts → Act → Prop} {i : Nat} {oi : Oper} (hi : ops[i]? = some oi) (hsel : ∀ (j : Nat) (o : Oper) cs b, ops[j]? = some o → o.op ≠ .select cs b)
  (hs : Region.sinkB md ops n = true) (hc : Region.chainB md ops n = true) (hn : n < ops.size) (hin : i < n) (hdone : ∀ listed, Lc listed → ∀ j ∈ Region.ready md ops listed, n ≤ j) :
  ∀ (fuel : Nat) (listed : Array Bool) (F : Facts) (a : Act), HeadInv md ops n listed →
   (∀ j oj, ops[j]? = some oj → j ≠ i → listed.getD j true = false → (∀ e ∈ oj.after, Region.binds md e = true → e.on ≠ i) → oi.apart ops oj = true) →
   i ∈ Region.ready md ops listed → (∀ w, Le w0 w → leans md oi F w → relAt P ops Le (T i) oi a w) →
   (∀ x, wpAnyRelT P md ops Le w0 T n Lc Q fuel (listed.setIfInBounds i true) (upd F i ((T i).φ x)) (a.put oi.dst ((T i).f x))) → wpAnyRelT P md ops Le w0 T n Lc Q (fuel + 1) listed F a := by
 intro fuel
 induction fuel with
 | zero =>
  intro listed F a inv _ hr hy H
  have hun := (mem_ready.1 hr).1
  refine ⟨fun h => (by rw [h] at hr; cases hr), fun j hj => ?_⟩
  have hjn : j < n := by
   rcases Nat.lt_or_ge j n with h | h
   ·exact h
   ·exact absurd hj (tail_waits hs hc hn inv _ i rfl hin hun j h)
  refine ⟨hjn, ?_⟩
  by_cases hji : j = i
  ·subst hji; unfold relOp; simp only [hi]; exact ⟨hy, H⟩
  ·obtain ⟨x⟩ := (T i).inh
   have := hdone _ (H x).1 j (ready_mono hj hji)
   omega
 | succ fuel ih =>
  intro listed F a inv hfree hr hy H
  have hun := (mem_ready.1 hr).1
  refine ⟨fun h => (by rw [h] at hr; cases hr), fun j hj => ?_⟩
  have hjn : j < n := by
   rcases Nat.lt_or_ge j n with h | h
   ·exact h
   ·exact absurd hj (tail_waits hs hc hn inv _ i rfl hin hun j h)
  refine ⟨hjn, ?_⟩
  by_cases hji : j = i
  ·subst hji; unfold relOp; simp only [hi]; exact ⟨hy, H⟩
  ·obtain ⟨hjun, oj, hoj, hall⟩ := mem_ready.1 hj
   have hnot : ∀ e ∈ oj.after, Region.binds md e = true → e.on ≠ i := fun e he hb heq => by
    have h1 := hall e he hb
    rw [heq, getD_both hun] at h1
    cases h1
   have hnoti : ∀ e ∈ oi.after, Region.binds md e = true → e.on ≠ j := fun e he hb heq => by
    obtain ⟨hiun, oi', hoi', halli⟩ := mem_ready.1 hr
    rw [hi] at hoi'
    cases hoi'
    have h1 := halli e he hb
    rw [heq, getD_both hjun] at h1
    cases h1
   obtain ⟨p1, p2, p3⟩ := Oper.apart_spec (hfree j oj hoj hji hjun hnot)
   have HJ : ∀ x, (∀ w, Le w0 w → leans md oj (upd F i ((T i).φ x)) w → relAt P ops Le (T j) oj (a.put oi.dst ((T i).f x)) w) ∧
     ∀ y, wpAnyRelT P md ops Le w0 T n Lc Q fuel ((listed.setIfInBounds i true).setIfInBounds j true) (upd (upd F i ((T i).φ x)) j ((T j).φ y)) ((a.put oi.dst ((T i).f x)).put oj.dst ((T j).f y)) := by
    intro x
    have h1 := ((H x).2 j (ready_mono hj hji)).2
    unfold relOp at h1
    simp only [hoj] at h1
    exact h1
   unfold relOp
   simp only [hoj]
   refine ⟨fun w hw hl => ?_, fun y => ?_⟩
   ·obtain ⟨x⟩ := (T i).inh
    have h1 := (HJ x).1 w hw (fun e he hb => by rw [upd_ne _ _ (hnot e he hb)]; exact hl e he hb)
    rwa [relAt_put (fun cs b => hsel j oj cs b hoj) p1] at h1
   ·have hfree' : ∀ k ok, ops[k]? = some ok → k ≠ i → (listed.setIfInBounds j true).getD k true = false →
        (∀ e ∈ ok.after, Region.binds md e = true → e.on ≠ i) → oi.apart ops ok = true := fun k ok hk hki hun hno => by
     refine hfree k ok hk hki ?_ hno
     by_cases hjk : j = k
     ·subst hjk; exact hjun
     ·rw [getD_set_ne true hjk] at hun; exact hun
    refine ih (listed.setIfInBounds j true) _ _ (inv.set hj hjn) hfree' (ready_mono hr (Ne.symm hji)) ?_ ?_
    ·intro w hw hl
     rw [relAt_put (fun cs b => hsel i oi cs b hi) p3]
     exact hy w hw (fun e he hb => by have := hl e he hb; rwa [upd_ne _ _ (hnoti e he hb)] at this)
    ·intro x
     have h1 := (HJ x).2 y
     rw [Array.setIfInBounds_comm _ _ hji, upd_comm _ _ _ hji, ← Act.put_comm a _ _ p2]
     exact h1
theorem wpAnyRelT_lex {n g : Nat} {Q : Facts → Act → Prop} (hsel : Region.noSelect ops = true) (hs : Region.sinkB md ops n = true) (hc : Region.chainB md ops n = true) (hn : n < ops.size) :
  ∀ (l : List Oper) (Ts : List (Ty Le)) (k : Nat) (listed : Array Bool) (F : Facts) (a : Act), (∀ j, j < l.length → l[j]? = ops[k + j]?) → (∀ j t, Ts[j]? = some t → T (k + j) = t) → k + l.length = n → HeadInv md ops n listed →
  Region.lexHead md ops g l.length k listed = true → wpRel P md ops Le w0 Q Ts k l F a →
  wpAnyRelT P md ops Le w0 T n (fun listed' => Region.seqB md ops g n listed' = true) Q l.length listed F a
 | [], Ts, k, listed, F, a, hl, _, hk, inv, hB, h => by
  have : k = n := by simpa using hk
  subst this
  cases Ts <;> exact ⟨by simpa [Region.lexHead] using hB, by simpa [wpRel] using h⟩
 | o :: l, [], _, _, _, _, _, _, _, _, _, h => by simp [wpRel] at h
 | o :: l, t :: Ts, k, listed, F, a, hl, hT, hk, inv, hB, h => by
  have h0 : ops[k]? = some o := by simpa using (hl 0 (by simp)).symm
  have hTk : T k = t := by simpa using hT 0 t (by simp)
  simp only [List.length_cons, Region.lexHead, Bool.and_eq_true] at hB
  obtain ⟨⟨hr, hf⟩, hB'⟩ := hB
  have hkn : k < n := by simp only [List.length_cons] at hk; omega
  have hr' : k ∈ Region.ready md ops listed := by simpa using hr
  simp only [wpRel] at h
  subst hTk
  exact wpAnyRelT_first h0 (Region.noSelect_spec hsel) hs hc hn hkn (fun listed hl => seqB_ready hl) l.length listed F a inv (Region.free_spec h0 hf) hr' h.1
   (fun x => wpAnyRelT_lex hsel hs hc hn l Ts (k + 1) _ _ _ (fun j hj => by have := hl (j + 1) (by simp; omega); simpa [Nat.add_assoc, Nat.add_comm 1 j] using this)
    (fun j t ht => by have := hT (j + 1) t (by simpa using ht); simpa [Nat.add_assoc, Nat.add_comm 1 j] using this) (by simp only [List.length_cons] at hk; omega) (inv.set hr' hkn) hB' (h.2 x))
/-- one walk by kinds in the order of the text, then the tail -/
theorem wp_region_relT (hr : ∀ w, Le w w) (ht : ∀ w1 w2 w3, Le w1 w2 → Le w2 w3 → Le w1 w3) (n : Nat) {id : Nat} {Q : Exit → Act → World → Prop} {a : Act} {w : World} {l : List Oper} (Ts : List (Ty Le)) (hm : P.follows .mixedOrders = true) (hB : Region.lexTailB .any l.toArray n = true)
  (h : wpRel P .any l.toArray Le w.drew (fun F a' => ∀ w', Le w.drew w' → (∀ k, F k w') → wpList P l.toArray Q (l.drop n) a' w') Ts 0 (l.take n) (fun _ _ => True) a) : (Code.region id l.toArray true).wp P Q a w := by
 simp only [Region.lexTailB, Bool.and_eq_true, decide_eq_true_eq] at hB
 obtain ⟨⟨⟨⟨h1, h2⟩, h3⟩, h4⟩, h5⟩ := hB
 have hlt : n < l.length := by simpa using h2
 have hlen : (l.take n).length = n := by rw [List.length_take]; omega
 refine wp_region_any hm ?_
 have inv : HeadInv .any l.toArray n (Array.replicate l.toArray.size false) := ⟨by simp, (fun j oj hj hl => by rw [getD_replicate_false] at hl; cases hl), (fun t ht ht' => by simp at ht'; simp [ht'])⟩
 have key : wpAnyRelT P .any l.toArray Le w.drew (nth Ts ⟨Unit, ⟨()⟩, fun _ => undef, fun _ _ => True, fun _ _ _ _ h => h⟩) n (fun listed' => Region.seqB .any l.toArray (l.toArray.size - n) n listed' = true)
   (fun F a' => ∀ w', Le w.drew w' → (∀ k, F k w') → wpList P l.toArray Q (l.drop n) a' w') (l.take n).length (Array.replicate l.toArray.size false) (fun _ _ => True) a :=
  wpAnyRelT_lex h1 h3 h4 h2 (l.take n) Ts 0 _ _ _ (fun j hj => by rw [hlen] at hj; simp [hj]) (by intro j t hj; simp [nth, hj]) (by omega) inv (by rw [hlen]; exact h5) h
 have hfin := wpAny_of_relT (P := P) (g := (l.drop n).length) ht (Q' := Q) (fun listed F a' w' hl hw hF hq => wpAny_of_seq (l.drop n) n listed a' w' (fun j => by simp [List.getElem?_drop]) (by rw [List.length_drop]; simpa using hl) (hq w' hw hF)) _ _ _ _ _ (hr _) (fun _ _ _ _ h => h) (fun _ => trivial) key
 have e : (l.take n).length + (l.drop n).length = l.length := by rw [← List.length_append, List.take_append_drop]
 rw [e] at hfin
 simpa using hfin
end
/-- a region whose last operations come in one forced order behind all others, which change nothing; the world under a name of one's own -/
theorem still_tail {P : Program} {id : Nat} {Q : Exit → Act → World → Prop} {a : Act} {w : World} {l : List Oper} (n : Nat) (hm : P.follows .mixedOrders = true) (hB : Region.lexTailB .any l.toArray n = true)
  (wd : World) (e : w.drew = wd) (h : wpStill P l.toArray wd (fun a' => wpList P l.toArray Q (l.drop n) a' wd) (l.take n) a) : (Code.region id l.toArray true).wp P Q a w := by
 subst e
 exact wp_region_still_tail n hm hB h
end Go.Proofs.YtheigpiffdabnaaGreat
