/-
  PLAIN: codes, and the strings that they are; how codes lie.
-/
import Derived.Test.YthikdkeanndidaaDoorFaU
import Derived.Test.YthikdkeanndidaaDoorBut
namespace Go.Proofs.YthikdkeanndidaaDoor
open Go Go.RowKit
set_option linter.unusedVariables false
set_option linter.unusedSimpArgs false
set_option maxRecDepth 100000

/-! ### Slices that lie in blocks of some kind -/

/-- v is a slice that reads as L, in a block of A -/
def SlA {α : Type} (E : Enc α) (A : Nat → Prop) (w : World) (v : Value) (L : List α) : Prop :=
  ∃ p cap, v = .slice p L.length cap ∧ L.length ≤ cap ∧ cap ≤ maxLen ∧ (0 < L.length → ∃ b off, p = some ⟨b, off, none⟩ ∧ A b ∧ CellsAt w b off (E.all L))
/-- the cells of the blocks of A are as they were -/
def Kp (A : Nat → Prop) (w w' : World) : Prop := ∀ (a : Addr) (v : Value), A a.block → w.cell? a = some v → w'.cell? a = some v
theorem Kp.refl (A : Nat → Prop) (w : World) : Kp A w w := fun _ _ _ h => h
theorem Kp.trans {A : Nat → Prop} {a b c : World} (h : Kp A a b) (k : Kp A b c) : Kp A a c := fun x v ha hc => k x v ha (h x v ha hc)
theorem Kp.mono {A B : Nat → Prop} {w w' : World} (h : Kp A w w') (hm : ∀ k, B k → A k) : Kp B w w' := fun x v ha hc => h x v (hm _ ha) hc
theorem Kp.below {A : Nat → Prop} {w w' : World} (h : Below w.heap.size w w') : Kp A w w' := fun a v _ hc => by rw [h.cell (World.block_lt_of_cell? w _ hc)]; exact hc
theorem Kp.belowN {B : Nat} {w w' : World} (h : Below B w w') : Kp (fun k => k < B) w w' := fun a v ha hc => by rw [h.cell ha]; exact hc
theorem Kp.but {M : Addr → Prop} {A : Nat → Prop} {w w' : World} (h : But M w w') (hm : ∀ a, A a.block → ¬ M a) : Kp A w w' := fun a v ha hc => h.keep hc (hm a ha)
theorem SlA.sl {α : Type} {E : Enc α} {A : Nat → Prop} {w : World} {v : Value} {L : List α} (h : SlA E A w v L) : SlIs E w v L := by
  obtain ⟨p, c, h1, h2, h3, h4⟩ := h
  exact ⟨p, c, h1, h2, h3, fun h0 => by obtain ⟨b, o, e, _, hc⟩ := h4 h0; exact ⟨b, o, e, hc⟩⟩
theorem SlA.keep {α : Type} {E : Enc α} {A : Nat → Prop} {w w' : World} {v : Value} {L : List α} (h : SlA E A w v L) (hk : Kp A w w') : SlA E A w' v L := by
  obtain ⟨p, c, h1, h2, h3, h4⟩ := h
  exact ⟨p, c, h1, h2, h3, fun h0 => by obtain ⟨b, o, e, ha, hc⟩ := h4 h0; exact ⟨b, o, e, ha, fun j v hv => hk _ v ha (hc j v hv)⟩⟩
theorem SlA.mono {α : Type} {E : Enc α} {A B : Nat → Prop} {w : World} {v : Value} {L : List α} (h : SlA E A w v L) (hm : ∀ k, A k → B k) : SlA E B w v L := by
  obtain ⟨p, c, h1, h2, h3, h4⟩ := h
  exact ⟨p, c, h1, h2, h3, fun h0 => by obtain ⟨b, o, e, ha, hc⟩ := h4 h0; exact ⟨b, o, e, hm b ha, hc⟩⟩
theorem SlA.isNil {α : Type} (E : Enc α) (A : Nat → Prop) (w : World) : SlA E A w (.slice none 0 0) [] := ⟨_, _, rfl, Nat.le_refl _, Nat.zero_le _, fun h => absurd h (by simp)⟩
theorem SlA.shape {α : Type} {E : Enc α} {A : Nat → Prop} {w : World} {v : Value} {L : List α} (h : SlA E A w v L) : ∃ p c, v = .slice p L.length c ∧ SlA E A w (.slice p L.length c) L := by
  obtain ⟨p, c, rfl, h2⟩ := h
  exact ⟨p, c, rfl, p, c, rfl, h2⟩
theorem SlA.of_sl {α : Type} {E : Enc α} {w : World} {v : Value} {L : List α} (h : SlIs E w v L) : SlA E (fun k => k < w.heap.size) w v L := by
  obtain ⟨p, c, h1, h2, h3, h4⟩ := h
  refine ⟨p, c, h1, h2, h3, fun h0 => ?_⟩
  obtain ⟨b, o, e, hc⟩ := h4 h0
  refine ⟨b, o, e, ?_, hc⟩
  have hlt : 0 < (E.all L).length := by rw [E.all_length]; exact Nat.mul_pos h0 E.pos
  exact World.block_lt_of_cell? w _ (hc 0 _ (List.getElem?_eq_getElem hlt))
theorem OwnL.sla {α : Type} {E : Enc α} {t : TypeId} {w : World} {base : Nat} {v : Value} {L : List α} (h : OwnL E t w base v L) : SlA E (fun k => base ≤ k) w v L := by
  have hs := h.sl
  obtain ⟨h1, h2 | ⟨g, cap, cur, e, hb, hg, hn, hm, hz, ht⟩⟩ := h
  · obtain ⟨e, h0⟩ := h2
    have : L = [] := List.eq_nil_of_length_eq_zero h0
    subst this; subst e
    exact SlA.isNil E _ w
  · subst e
    obtain ⟨p', c', e, h2, h3, h4⟩ := hs
    injection e with e1 e2 e3
    subst e1
    subst e3
    refine ⟨_, _, rfl, h2, h3, fun h0 => ?_⟩
    obtain ⟨b, o, e, hc⟩ := h4 h0
    injection e with e
    injection e with e1 e2 _
    subst e1
    subst e2
    exact ⟨_, _, rfl, hb, hc⟩
theorem SlA.at_ {α : Type} {E : Enc α} {A : Nat → Prop} {w : World} {p : Option Addr} {n c : Nat} {L : List α} (h : SlA E A w (.slice p n c) L) : n = L.length ∧ n ≤ maxLen ∧ ∀ j (hj : j < L.length), ∃ b off, p = some ⟨b, off, none⟩ ∧ A b ∧ ∀ k v, k < E.size → (E.cells L[j])[k]? = some v → w.cell? ⟨b, off + j * E.size + k, none⟩ = some v := by
  obtain ⟨p', c', e, h2, h3, h4⟩ := h
  injection e with e1 e2 e3
  subst e1; subst e2; subst e3
  refine ⟨rfl, by omega, fun j hj => ?_⟩
  obtain ⟨b, o, e, ha, hc⟩ := h4 (by omega)
  exact ⟨b, o, e, ha, fun k v hk hv => hc.elem j hj k hk v hv⟩

/-! ### Codes -/

/-- a number that an int holds -/
def InI (n : Int) : Prop := -9223372036854775808 ≤ n ∧ n ≤ 9223372036854775807
/-- an operation -/
structure Opp where
  kind : Int
  a : Int
  b : Int
  c : Int
  list : List Int
  sym : ByteArray
structure Opp.Ok (o : Opp) : Prop where
  kind : InI o.kind
  a : InI o.a
  b : InI o.b
  c : InI o.c
  list : ∀ n ∈ o.list, InI n
/-- a code -/
structure Cdd where
  params : Int
  regs : Int
  ops : List Opp
structure Cdd.Ok (x : Cdd) : Prop where
  params : InI x.params
  regs : InI x.regs
  ops : ∀ o ∈ x.ops, o.Ok
def opp0 : Opp := ⟨0, 0, 0, 0, [], ⟨#[]⟩⟩
def cdd0 : Cdd := ⟨0, 0, []⟩

/-- ints in a row -/
def encI : Enc Int := ⟨fun n => [.int .i64 n], 1, fun _ => rfl, fun x v hv => by simp at hv; subst hv; rfl, by decide⟩
/-- an operation as it lies: its list is a slice -/
abbrev Rop := Opp × Option Addr × Nat
def Rop.sl (r : Rop) : Value := .slice r.2.1 r.1.list.length r.2.2
def encOp : Enc Rop := ⟨fun r => [.int .i64 r.1.kind, .int .i64 r.1.a, .int .i64 r.1.b, .int .i64 r.1.c, r.sl, .string r.1.sym], 6, fun _ => rfl, fun x v hv => by
  simp at hv
  rcases hv with rfl | rfl | rfl | rfl | rfl | rfl <;> rfl, by decide⟩
/-- a list of operations -/
def OpsA (A : Nat → Prop) (w : World) (v : Value) (L : List Opp) : Prop :=
  ∃ R : List Rop, R.map (·.1) = L ∧ SlA encOp A w v R ∧ ∀ r ∈ R, SlA encI A w r.sl r.1.list
theorem OpsA.keep {A : Nat → Prop} {w w' : World} {v : Value} {L : List Opp} (h : OpsA A w v L) (hk : Kp A w w') : OpsA A w' v L := by
  obtain ⟨R, h1, h2, h3⟩ := h
  exact ⟨R, h1, h2.keep hk, fun r hr => (h3 r hr).keep hk⟩
theorem OpsA.mono {A B : Nat → Prop} {w : World} {v : Value} {L : List Opp} (h : OpsA A w v L) (hm : ∀ k, A k → B k) : OpsA B w v L := by
  obtain ⟨R, h1, h2, h3⟩ := h
  exact ⟨R, h1, h2.mono hm, fun r hr => (h3 r hr).mono hm⟩
theorem OpsA.isNil (A : Nat → Prop) (w : World) : OpsA A w (.slice none 0 0) [] := ⟨[], rfl, SlA.isNil _ _ _, fun r hr => by cases hr⟩
/-- a code as a value -/
def CdA (A : Nat → Prop) (w : World) (v : Value) (x : Cdd) : Prop := ∃ p c, v = .agg #[.int .i64 x.params, .int .i64 x.regs, .slice p x.ops.length c] ∧ OpsA A w (.slice p x.ops.length c) x.ops
theorem CdA.keep {A : Nat → Prop} {w w' : World} {v : Value} {x : Cdd} (h : CdA A w v x) (hk : Kp A w w') : CdA A w' v x := by
  obtain ⟨p, c, h1, h2⟩ := h
  exact ⟨p, c, h1, h2.keep hk⟩
theorem CdA.mono {A B : Nat → Prop} {w : World} {v : Value} {x : Cdd} (h : CdA A w v x) (hm : ∀ k, A k → B k) : CdA B w v x := by
  obtain ⟨p, c, h1, h2⟩ := h
  exact ⟨p, c, h1, h2.mono hm⟩

/-! ### The strings -/

namespace Fa
def packSz (L : List ByteArray) : ByteArray := packS L
/-- the string of a list of numbers -/
def numsS (l : List Int) : ByteArray := packS (l.map itS)
/-- the string of an operation -/
def opS (o : Opp) : ByteArray := packS [itS o.kind, itS o.a, itS o.b, itS o.c, numsS o.list, o.sym]
/-- the string of a code -/
def cdS (x : Cdd) : ByteArray := packS [itS x.params, itS x.regs, packS (x.ops.map opS)]

theorem packS_data (L : List ByteArray) : (packS L).data.toList = packL L := by simp [packS]
theorem packS_size (L : List ByteArray) : (packS L).size = (packL L).length := by rw [← len_data, packS_data]
theorem packS_inj {A B : List ByteArray} (hz : (packS A).size < 9223372036854775808) (h : packS A = packS B) : A = B :=
  pack_inj (by rw [← packS_size]; exact hz) (by rw [← packS_data, ← packS_data, h])
theorem itS_inj {m n : Int} (hm : InI m) (hn : InI n) (h : itS m = itS n) : m = n := by
  have e : Lib.itoa m = Lib.itoa n := by rw [← itS_data, ← itS_data, h]
  have e1 := atoi_itoa m hm.1 hm.2
  have e2 := atoi_itoa n hn.1 hn.2
  rw [e, e2] at e1
  injection e1 with e1
  exact e1.symm
theorem mem_size {L : List ByteArray} {x : ByteArray} (h : x ∈ L) : x.size ≤ (packL L).length := by
  induction L with
  | nil => cases h
  | cons y L ih =>
    simp only [packL, List.length_append, List.length_cons, len_data]
    rcases List.mem_cons.1 h with rfl | h
    · omega
    · have := ih h; omega
theorem map_inj {α : Type} {f : α → ByteArray} {P : α → Prop} (hf : ∀ x y, P x → P y → f x = f y → x = y) : ∀ {l m : List α}, (∀ x ∈ l, P x) → (∀ x ∈ m, P x) → l.map f = m.map f → l = m
  | [], [], _, _, _ => rfl
  | [], _ :: _, _, _, h => by cases h
  | _ :: _, [], _, _, h => by cases h
  | x :: l, y :: m, hl, hm, h => by
    simp only [List.map_cons, List.cons.injEq] at h
    rw [hf x y (hl x (by simp)) (hm y (by simp)) h.1, map_inj hf (fun z hz => hl z (by simp [hz])) (fun z hz => hm z (by simp [hz])) h.2]
theorem numsS_inj {l m : List Int} (hl : ∀ n ∈ l, InI n) (hm : ∀ n ∈ m, InI n) (hz : (numsS l).size < 9223372036854775808) (h : numsS l = numsS m) : l = m :=
  map_inj (fun x y => itS_inj) hl hm (packS_inj hz h)
theorem opS_inj {o q : Opp} (ho : o.Ok) (hq : q.Ok) (hz : (opS o).size < 9223372036854775808) (h : opS o = opS q) : o = q := by
  have hm : (numsS o.list).size < 9223372036854775808 := by
    have := mem_size (L := [itS o.kind, itS o.a, itS o.b, itS o.c, numsS o.list, o.sym]) (x := numsS o.list) (by simp)
    have e : (opS o).size = _ := packS_size _
    omega
  have := packS_inj hz h
  simp only [List.cons.injEq, and_true] at this
  obtain ⟨h1, h2, h3, h4, h5, h6⟩ := this
  have e1 := itS_inj ho.kind hq.kind h1
  have e2 := itS_inj ho.a hq.a h2
  have e3 := itS_inj ho.b hq.b h3
  have e4 := itS_inj ho.c hq.c h4
  have e5 := numsS_inj ho.list hq.list hm h5
  cases o; cases q
  simp only at *
  subst e1; subst e2; subst e3; subst e4; subst e5; subst h6
  rfl
theorem map_inj2 {α : Type} {f : α → ByteArray} {P : α → Prop} {B : Nat} (hf : ∀ x y, P x → P y → (f x).size < B → f x = f y → x = y) : ∀ {l m : List α}, (∀ x ∈ l, P x) → (∀ x ∈ m, P x) → (∀ x ∈ l, (f x).size < B) → l.map f = m.map f → l = m
  | [], [], _, _, _, _ => rfl
  | [], _ :: _, _, _, _, h => by cases h
  | _ :: _, [], _, _, _, h => by cases h
  | x :: l, y :: m, hl, hm, hb, h => by
    simp only [List.map_cons, List.cons.injEq] at h
    rw [hf x y (hl x (by simp)) (hm y (by simp)) (hb x (by simp)) h.1, map_inj2 hf (fun z hz => hl z (by simp [hz])) (fun z hz => hm z (by simp [hz])) (fun z hz => hb z (by simp [hz])) h.2]
theorem cdS_inj {x y : Cdd} (hx : x.Ok) (hy : y.Ok) (hz : (cdS x).size < 9223372036854775808) (h : cdS x = cdS y) : x = y := by
  have hm : (packS (x.ops.map opS)).size < 9223372036854775808 := by
    have := mem_size (L := [itS x.params, itS x.regs, packS (x.ops.map opS)]) (x := packS (x.ops.map opS)) (by simp)
    have e : (cdS x).size = _ := packS_size _
    omega
  have := packS_inj hz h
  simp only [List.cons.injEq, and_true] at this
  obtain ⟨h1, h2, h3⟩ := this
  have e1 := itS_inj hx.params hy.params h1
  have e2 := itS_inj hx.regs hy.regs h2
  have e3 := map_inj2 (B := 9223372036854775808) (fun a b ha hb hs => opS_inj ha hb hs) hx.ops hy.ops (fun o ho => by
    have := mem_size (L := x.ops.map opS) (x := opS o) (List.mem_map.2 ⟨o, ho, rfl⟩)
    have e : (packS (x.ops.map opS)).size = _ := packS_size _
    omega) (packS_inj hm h3)
  cases x; cases y
  simp only at *
  subst e1; subst e2; subst e3
  rfl

/-- what reading gives: a thing with this string, or nothing -/
def Rdg {α : Type} (S : α → ByteArray) (Ok : α → Prop) (s : ByteArray) (x : α) (b : Bool) : Prop := (b = true → S x = s ∧ Ok x) ∧ (b = false → ∀ y, Ok y → S y ≠ s)
theorem Rdg.same {α : Type} {S : α → ByteArray} {Ok : α → Prop} {s : ByteArray} {x y : α} {b c : Bool} (hs : s.size < 9223372036854775808) (hi : ∀ x y, Ok x → Ok y → (S x).size < 9223372036854775808 → S x = S y → x = y) (h : Rdg S Ok s x b) (k : Rdg S Ok s y c) : b = c ∧ (b = true → x = y) := by
  cases b <;> cases c
  · exact ⟨rfl, fun e => by cases e⟩
  · exact absurd (k.1 rfl).1 (h.2 rfl y (k.1 rfl).2)
  · exact absurd (h.1 rfl).1 (k.2 rfl x (h.1 rfl).2)
  · exact ⟨rfl, fun _ => hi x y (h.1 rfl).2 (k.1 rfl).2 (by rw [(h.1 rfl).1]; exact hs) ((h.1 rfl).1.trans (k.1 rfl).1.symm)⟩
end Fa
end Go.Proofs.YthikdkeanndidaaDoor
