/-
  CONTRACTS: the fields of a fact that is read, one after the other.
-/
import Derived.Test.YthikdkeanndidaaDoorCd
import Derived.Test.YthikdkeanndidaaDoorFaA
namespace Go.Proofs.YthikdkeanndidaaDoor
open Go Go.RowKit
set_option linter.unusedVariables false
set_option linter.unusedSimpArgs false
set_option maxRecDepth 100000

/-- the fields that are left, in block fb -/
structure FldAt (fb : Nat) (A : Nat → Prop) (w : World) (L : List ByteArray) (fl : Bool) : Prop where
  sl : ∃ p c, w.cell? ⟨fb, 0, none⟩ = some (.slice p L.length c) ∧ SlA encN A w (.slice p L.length c) L
  fl : w.cell? ⟨fb, 1, none⟩ = some (.bool fl)
  w0 : w.frozen? ⟨fb, 0, none⟩ = false
  w1 : w.frozen? ⟨fb, 1, none⟩ = false
theorem FldAt.below {fb : Nat} {A : Nat → Prop} {w w' : World} {L : List ByteArray} {fl : Bool} (h : FldAt fb A w L fl) (hb : Below w.heap.size w w') : FldAt fb A w' L fl := by
  obtain ⟨⟨p, c, h0, hs⟩, h1, f0, f1⟩ := h
  have hlt : fb < w.heap.size := World.block_lt_of_cell? w _ h0
  exact ⟨⟨p, c, (hb.cell hlt).trans h0, hs.keep (Kp.below hb)⟩, (hb.cell hlt).trans h1, (hb.frozen hlt).trans f0, (hb.frozen hlt).trans f1⟩
theorem FldAt.lt {fb : Nat} {A : Nat → Prop} {w : World} {L : List ByteArray} {fl : Bool} (h : FldAt fb A w L fl) : fb < w.heap.size := World.block_lt_of_cell? w _ h.fl
theorem fld_flag {fb : Nat} {A : Nat → Prop} {w : World} {L : List ByteArray} {fl : Bool} (h : FldAt fb A w L fl) (hA : ∀ k, A k → k ≠ fb) : FldAt fb A (w.setCell ⟨fb, 1, none⟩ (.bool true)) L true := by
  obtain ⟨⟨p, c, h0, hs⟩, h1, f0, f1⟩ := h
  refine ⟨⟨p, c, ?_, hs.keep (Kp.but (But.setCell (M := fun a => a.block = fb) w _ _ rfl) (fun a ha e => hA _ ha e))⟩, World.cell?_setCell_same _ _ _ h1, (World.frozen?_setCell _ _ _ _).trans f0, (World.frozen?_setCell _ _ _ _).trans f1⟩
  rw [World.cell?_setCell_other _ _ _ _ (by intro e; injection e with _ e _; cases e)]
  exact h0
/-- the fields behind the first one -/
theorem fld_step {fb b0 o0 c : Nat} {A : Nat → Prop} {w w2 : World} {s : ByteArray} {Lr : List ByteArray} (b : Bool) (q : Value) (hs : SlA encN A w (.slice (some ⟨b0, o0, none⟩) (s :: Lr).length c) (s :: Lr)) (hb : Below w.heap.size w w2)
    (hA : ∀ k, A k → k ≠ fb) (z0 : (w2.cell? ⟨fb, 0, none⟩).isSome = true) (z1 : (w2.cell? ⟨fb, 1, none⟩).isSome = true) (g0 : w2.frozen? ⟨fb, 0, none⟩ = false) (g1 : w2.frozen? ⟨fb, 1, none⟩ = false)
    (hq : SlA encN A w (.slice (some ⟨b0, o0, none⟩) (s :: Lr).length c) (s :: Lr) → SlA encN A w q Lr) :
    FldAt fb A ((w2.setCell ⟨fb, 0, none⟩ q).setCell ⟨fb, 1, none⟩ (.bool b)) Lr b := by
  obtain ⟨u0, z0⟩ := Option.isSome_iff_exists.1 z0
  obtain ⟨u1, z1⟩ := Option.isSome_iff_exists.1 z1
  obtain ⟨p, c', rfl, hs2⟩ := (hq hs).shape
  have hbut : But (fun a => a.block = fb) w2 ((w2.setCell ⟨fb, 0, none⟩ (.slice p Lr.length c')).setCell ⟨fb, 1, none⟩ (.bool b)) := (But.setCell (M := fun a => a.block = fb) w2 ⟨fb, 0, none⟩ _ rfl).trans (But.setCell (M := fun a => a.block = fb) _ ⟨fb, 1, none⟩ _ rfl)
  refine ⟨⟨p, c', ?_, (hs2.keep (Kp.below hb)).keep (Kp.but hbut (fun a ha e => hA _ ha e))⟩, ?_, ?_, ?_⟩
  · rw [World.cell?_setCell_other _ _ _ _ (by intro e; injection e with _ e _; cases e)]
    exact World.cell?_setCell_same _ _ _ z0
  · exact World.cell?_setCell_same (u := u1) _ _ _ (by rw [World.cell?_setCell_other _ _ _ _ (by intro e; injection e with _ e _; cases e)]; exact z1)
  · rw [World.frozen?_setCell, World.frozen?_setCell]; exact g0
  · rw [World.frozen?_setCell, World.frozen?_setCell]; exact g1
/-- what one more field gives -/
def NextP (Q : ByteArray → World → Value → Bool → Prop) (fb : Nat) (A : Nat → Prop) (L : List ByteArray) (fl : Bool) (z : Value) (e : Ending) (w' : World) : Prop :=
  ∃ x L' fl', e = .returned x ∧ FldAt fb A w' L' fl' ∧ (∀ s ∈ L', s ∈ L) ∧ (fl' = false → fl = false ∧ ∃ s, L = s :: L' ∧ Q s w' x true) ∧ (fl' = true → fl = true ∨ L = [] ∨ ∃ s Lr, L = s :: Lr ∧ Q s w' x false) ∧ (x = z ∨ ∃ s b, Q s w' x b)
theorem NextP.stop {Q : ByteArray → World → Value → Bool → Prop} {fb : Nat} {A : Nat → Prop} {L : List ByteArray} {fl : Bool} {z : Value} {w' : World} (h : FldAt fb A w' L true) (hf : fl = true ∨ L = []) : NextP Q fb A L fl z (.returned z) w' :=
  ⟨z, L, true, rfl, h, fun s hs => hs, fun e => (by cases e), fun _ => hf.imp_right Or.inl, .inl rfl⟩
theorem NextP.go {Q : ByteArray → World → Value → Bool → Prop} {fb : Nat} {A : Nat → Prop} {s : ByteArray} {Lr : List ByteArray} {x z : Value} {b : Bool} {w' : World} (h : FldAt fb A w' Lr (!b)) (hq : Q s w' x b) : NextP Q fb A (s :: Lr) false z (.returned x) w' := by
  cases b
  · exact ⟨x, Lr, true, rfl, h, fun s hs => List.mem_cons_of_mem _ hs, fun e => (by cases e), fun _ => .inr (.inr ⟨s, Lr, rfl, hq⟩), .inr ⟨s, _, hq⟩⟩
  · exact ⟨x, Lr, false, rfl, h, fun s hs => List.mem_cons_of_mem _ hs, fun _ => ⟨rfl, s, rfl, hq⟩, fun e => (by cases e), .inr ⟨s, _, hq⟩⟩
theorem fld_tail1 {b0 o0 n : Nat} {A : Nat → Prop} {w : World} {Lr : List ByteArray} (hn : n = Lr.length) (h0 : Lr = []) : SlA encN A w (.slice (some ⟨b0, o0, none⟩) n 0) Lr := by
  subst h0
  subst hn
  exact ⟨_, _, rfl, Nat.le_refl _, Nat.zero_le _, fun h => absurd h (by simp)⟩
theorem fld_tail2 {b0 o0 n c : Nat} {A : Nat → Prop} {w : World} {s : ByteArray} {Lr : List ByteArray} (hn : n = Lr.length) (h : SlA encN A w (.slice (some ⟨b0, o0, none⟩) (s :: Lr).length c) (s :: Lr)) : SlA encN A w (.slice (some ⟨b0, o0 + 1, none⟩) n (c - 1)) Lr := by
  subst hn
  obtain ⟨p, c', e, h2, h3, h4⟩ := h
  injection e with e1 e2 e3
  subst e3
  simp only [List.length_cons] at h2
  refine ⟨_, _, rfl, by omega, by omega, fun h0 => ?_⟩
  obtain ⟨b, o, e, ha, hc⟩ := h4 (by simp)
  rw [← e1] at e
  injection e with e
  injection e with e1 e2 _
  subst e1
  subst e2
  refine ⟨_, _, rfl, ha, fun j v hv => ?_⟩
  have := hc (j + 1) v (by
    rw [Enc.all_cons]
    show (Value.string s :: encN.all Lr)[j + 1]? = some v
    simpa using hv)
  rwa [show o0 + 1 + j = o0 + (j + 1) by omega]

set_option maxHeartbeats 1000000 in
/-- the fields of a string -/
theorem fieldsOf_any (s : ByteArray) (w : World) (hs : s.size ≤ 1000000000) (hw : LaidW w) :
    Calls Tryd.prog 28 #[.string s] w fun e w' => (∃ fb L b, e = .returned (.pointer (some ⟨fb, 0, none⟩)) ∧ w.heap.size ≤ fb ∧ FldAt fb (fun k => w.heap.size ≤ k ∧ k < fb) w' L (!b) ∧ Fa.Got s.data.toList L b) ∧ Below w.heap.size w w' := by
  have HU := Lib.hid (unpack_any s w hs hw)
  clear hw
  go_enter Tryd.func28, Tryd.ntmps28
  go_wp2_with fail
  refine HU.out.mono ?_
  rintro e w1 ⟨⟨v, L, b, rfl, ho, hg⟩, hb1⟩
  obtain ⟨p, c, rfl, hsl⟩ := ho.sla.shape
  have HSL : Hid (SlA encN (fun k => w.heap.size ≤ k ∧ k < w1.heap.size) w1 (.slice p L.length c) L) := by
    obtain ⟨p', c', e, h2, h3, h4⟩ := hsl
    exact ⟨p', c', e, h2, h3, fun h0 => by
      obtain ⟨b, o, e2, ha, hc⟩ := h4 h0
      have hlt : 0 < (encN.all L).length := by rw [encN.all_length]; exact Nat.mul_pos h0 encN.pos
      exact ⟨b, o, e2, ⟨ha, World.block_lt_of_cell? w1 _ (hc 0 _ (List.getElem?_eq_getElem hlt))⟩, hc⟩⟩
  have HB1 := Lib.hid hb1
  have HG := Lib.hid hg
  clear hb1 hg ho hsl HU
  have HN : Hid ((w1.alloc (.cells #[.slice p L.length c, .bool !b] 107)).heap[w1.heap.size]? = some (.cells #[.slice p L.length c, .bool !b] 107 (0, 0))) := heap_alloc_new w1 _
  have HFD : Hid (FldAt w1.heap.size (fun k => w.heap.size ≤ k ∧ k < w1.heap.size) (w1.alloc (.cells #[.slice p L.length c, .bool !b] 107)) L (!b)) :=
    ⟨⟨p, c, by rw [Lib.cell_of_heap HN.out]; rfl, HSL.out.keep (Kp.below (below_box w1 _))⟩, by rw [Lib.cell_of_heap HN.out]; rfl, Lib.frozen_of_heap HN.out 0, Lib.frozen_of_heap HN.out 1⟩
  have HB2 : Hid (Below w.heap.size w (w1.alloc (.cells #[.slice p L.length c, .bool !b] 107))) := HB1.out.trans ((below_box w1 _).mono HB1.out.size)
  clear HN HSL
  go_wp2_with fail
  go_ret
  exact ⟨⟨_, L, b, rfl, HB1.out.size, HFD.out, HG.out⟩, HB2.out⟩
/-- a text as it is -/
theorem readText_any (s : ByteArray) (w : World) : Calls Tryd.prog 66 #[.string s] w fun e w' => e = .returned (.tuple #[.string s, .bool true]) ∧ Below w.heap.size w w' := by
  go_enter Tryd.func66, Tryd.ntmps66
  go_wp2_with fail
  go_ret2
  exact ⟨rfl, Below.refl _ _⟩

set_option maxHeartbeats 2000000 in
/-- next, at int -/
theorem next_int (fb : Nat) (A : Nat → Prop) (L : List ByteArray) (fl : Bool) (w : World) (h : FldAt fb A w L fl) (hA : ∀ k, A k → k ≠ fb) (F : FuncId) (bs : Array Value)
    (hF : ∀ args w, (callFunc F args).run Tryd.prog w = .ok (.enter F args) w) (Q : ByteArray → World → Value → Bool → Prop)
    (hC : ∀ s ∈ L, ∀ w1, Below w.heap.size w w1 → Calls Tryd.prog F (#[.string s] ++ bs) w1 fun e w2 => (∃ x b, e = .returned (.tuple #[x, .bool b]) ∧ Q s w2 x b) ∧ Below w1.heap.size w1 w2)
    (hQ : ∀ s w2 w3 x b, But (fun a => a.block = fb) w2 w3 → Q s w2 x b → Q s w3 x b) :
    Calls Tryd.prog 30 #[.pointer (some ⟨fb, 0, none⟩), .func (.func F) #[] bs] w fun e w' => NextP Q fb A L fl (.int .i64 0) e w' ∧ But (fun a => a.block = fb) w w' := by
  obtain ⟨⟨p, c, h0, hs⟩, h1, f0, f1⟩ := h
  have HS := Lib.hid hs
  cases fl with
  | true =>
    have HF : Hid (FldAt fb A (w.setCell ⟨fb, 1, none⟩ (.bool true)) L true) := fld_flag ⟨⟨p, c, h0, hs⟩, h1, f0, f1⟩ hA
    have HB : Hid (But (fun a => a.block = fb) w (w.setCell ⟨fb, 1, none⟩ (.bool true))) := But.setCell w _ _ rfl
    clear hs hC hQ
    go_enter Tryd.func30, Tryd.ntmps30
    go_wp2_with fail
    go_ret
    exact ⟨NextP.stop HF.out (.inl rfl), HB.out⟩
  | false =>
    cases L with
    | nil =>
      have hl0 : (([] : List ByteArray).length : Int) = 0 := rfl
      have HF : Hid (FldAt fb A (w.setCell ⟨fb, 1, none⟩ (.bool true)) [] true) := fld_flag ⟨⟨p, c, h0, hs⟩, h1, f0, f1⟩ hA
      have HB : Hid (But (fun a => a.block = fb) w (w.setCell ⟨fb, 1, none⟩ (.bool true))) := But.setCell w _ _ rfl
      have h00 : w.cell? ⟨fb, 0, none⟩ = some (.slice p 0 c) := h0
      clear hs hC hQ h0
      go_enter Tryd.func30, Tryd.ntmps30
      go_wp2_with fail
      go_ret
      exact ⟨NextP.stop HF.out (.inr rfl), HB.out⟩
    | cons s Lr =>
      have HC := Lib.hid (hC s (by simp))
      have HQ := Lib.hid hQ
      obtain ⟨-, hm, hat⟩ := hs.at_
      unfold maxLen at hm
      obtain ⟨b0, o0, rfl, hab, hcell⟩ := hat 0 (by simp)
      have y0 : w.cell? ⟨b0, o0, none⟩ = some (.string s) := by have := hcell 0 _ (by decide) rfl; simpa [encN] using this
      obtain ⟨n, hn⟩ : ∃ n, n = Lr.length := ⟨_, rfl⟩
      have hn1 : (s :: Lr).length = n + 1 := by rw [hn]; rfl
      rw [hn1] at h0 hm
      have hc1 : n + 1 ≤ c := by
        obtain ⟨p', c', e, h2, h3, h4⟩ := hs
        injection e with e1 e2 e3
        subst e3
        rw [hn1] at h2
        exact h2
      have hcm : c ≤ 9223372036854775807 := by
        obtain ⟨p', c', e, h2, h3, h4⟩ := hs
        injection e with e1 e2 e3
        subst e3
        unfold maxLen at h3
        exact h3
      have hnq : (((n + 1 : Nat) : Int) == 0) = false := by rw [beq_eq_false_iff_ne]; omega
      have HN := Lib.hid hn
      have H0 := Lib.hid h0
      have H1 := Lib.hid h1
      have HF0 := Lib.hid f0
      have HF1 := Lib.hid f1
      clear hs hC hQ hat hcell hn hn1 hab
      go_enter Tryd.func30, Tryd.ntmps30
      go_wp2_with fail
      refine (HC.out w (Below.refl _ _)).mono ?_
      rintro e w2 ⟨⟨x, b, rfl, hq⟩, hb⟩
      have hlt : fb < w.heap.size := World.block_lt_of_cell? w _ H0.out
      have z0 : w2.cell? ⟨fb, 0, none⟩ = some (.slice (some ⟨b0, o0, none⟩) (n + 1) c) := (hb.cell hlt).trans H0.out
      have z1 : w2.cell? ⟨fb, 1, none⟩ = some (.bool false) := (hb.cell hlt).trans H1.out
      have g0 : w2.frozen? ⟨fb, 0, none⟩ = false := (hb.frozen hlt).trans HF0.out
      have g1 : w2.frozen? ⟨fb, 1, none⟩ = false := (hb.frozen hlt).trans HF1.out
      have HB := Lib.hid hb
      have HQ2 := Lib.hid hq
      clear hb hq hlt h0 h1 f0 f1 y0
      by_cases hcx : c = 1
      · subst hcx
        have hn0 : Lr = [] := List.eq_nil_of_length_eq_zero (by rw [← HN.out]; omega)
        have HN0 := Lib.hid hn0
        obtain rfl : n = 0 := by omega
        clear hn0
        have HFD : Hid (FldAt fb A ((w2.setCell ⟨fb, 0, none⟩ (.slice (some ⟨b0, o0, none⟩) 0 0)).setCell ⟨fb, 1, none⟩ (.bool !b)) Lr (!b)) := fld_step (!b) _ HS.out HB.out hA (by rw [z0]; rfl) (by rw [z1]; rfl) g0 g1 (fun h => fld_tail1 HN.out HN0.out)
        have hbut : But (fun a => a.block = fb) w2 ((w2.setCell ⟨fb, 0, none⟩ (.slice (some ⟨b0, o0, none⟩) 0 0)).setCell ⟨fb, 1, none⟩ (.bool !b)) := (But.setCell (M := fun a => a.block = fb) w2 ⟨fb, 0, none⟩ _ rfl).trans (But.setCell (M := fun a => a.block = fb) _ ⟨fb, 1, none⟩ _ rfl)
        have HBU := Lib.hid hbut
        have HQ3 := Lib.hid (HQ.out s _ _ x b hbut HQ2.out)
        clear hbut
        go_wp2_with fail
        go_ret
        exact ⟨NextP.go HFD.out HQ3.out, (But.of_below HB.out).trans HBU.out⟩
      · have hcy : 1 < c := by omega
        have hcy1 : ¬ c - 1 = 0 := by omega
        have HFD : Hid (FldAt fb A ((w2.setCell ⟨fb, 0, none⟩ (.slice (some ⟨b0, o0 + 1, none⟩) n (c - 1))).setCell ⟨fb, 1, none⟩ (.bool !b)) Lr (!b)) := fld_step (!b) _ HS.out HB.out hA (by rw [z0]; rfl) (by rw [z1]; rfl) g0 g1 (fun h => fld_tail2 HN.out h)
        have hbut : But (fun a => a.block = fb) w2 ((w2.setCell ⟨fb, 0, none⟩ (.slice (some ⟨b0, o0 + 1, none⟩) n (c - 1))).setCell ⟨fb, 1, none⟩ (.bool !b)) := (But.setCell (M := fun a => a.block = fb) w2 ⟨fb, 0, none⟩ _ rfl).trans (But.setCell (M := fun a => a.block = fb) _ ⟨fb, 1, none⟩ _ rfl)
        have HBU := Lib.hid hbut
        have HQ3 := Lib.hid (HQ.out s _ _ x b hbut HQ2.out)
        clear hbut
        go_wp2_with fail
        go_ret
        exact ⟨NextP.go HFD.out HQ3.out, (But.of_below HB.out).trans HBU.out⟩

set_option maxHeartbeats 2000000 in
/-- next, at []int -/
theorem next_ints (fb : Nat) (A : Nat → Prop) (L : List ByteArray) (fl : Bool) (w : World) (h : FldAt fb A w L fl) (hA : ∀ k, A k → k ≠ fb) (F : FuncId) (bs : Array Value)
    (hF : ∀ args w, (callFunc F args).run Tryd.prog w = .ok (.enter F args) w) (Q : ByteArray → World → Value → Bool → Prop)
    (hC : ∀ s ∈ L, ∀ w1, Below w.heap.size w w1 → Calls Tryd.prog F (#[.string s] ++ bs) w1 fun e w2 => (∃ x b, e = .returned (.tuple #[x, .bool b]) ∧ Q s w2 x b) ∧ Below w1.heap.size w1 w2)
    (hQ : ∀ s w2 w3 x b, But (fun a => a.block = fb) w2 w3 → Q s w2 x b → Q s w3 x b) :
    Calls Tryd.prog 63 #[.pointer (some ⟨fb, 0, none⟩), .func (.func F) #[] bs] w fun e w' => NextP Q fb A L fl (.slice none 0 0) e w' ∧ But (fun a => a.block = fb) w w' := by
  obtain ⟨⟨p, c, h0, hs⟩, h1, f0, f1⟩ := h
  have HS := Lib.hid hs
  cases fl with
  | true =>
    have HF : Hid (FldAt fb A (w.setCell ⟨fb, 1, none⟩ (.bool true)) L true) := fld_flag ⟨⟨p, c, h0, hs⟩, h1, f0, f1⟩ hA
    have HB : Hid (But (fun a => a.block = fb) w (w.setCell ⟨fb, 1, none⟩ (.bool true))) := But.setCell w _ _ rfl
    clear hs hC hQ
    go_enter Tryd.func63, Tryd.ntmps63
    go_wp2_with fail
    go_ret
    exact ⟨NextP.stop HF.out (.inl rfl), HB.out⟩
  | false =>
    cases L with
    | nil =>
      have hl0 : (([] : List ByteArray).length : Int) = 0 := rfl
      have HF : Hid (FldAt fb A (w.setCell ⟨fb, 1, none⟩ (.bool true)) [] true) := fld_flag ⟨⟨p, c, h0, hs⟩, h1, f0, f1⟩ hA
      have HB : Hid (But (fun a => a.block = fb) w (w.setCell ⟨fb, 1, none⟩ (.bool true))) := But.setCell w _ _ rfl
      have h00 : w.cell? ⟨fb, 0, none⟩ = some (.slice p 0 c) := h0
      clear hs hC hQ h0
      go_enter Tryd.func63, Tryd.ntmps63
      go_wp2_with fail
      go_ret
      exact ⟨NextP.stop HF.out (.inr rfl), HB.out⟩
    | cons s Lr =>
      have HC := Lib.hid (hC s (by simp))
      have HQ := Lib.hid hQ
      obtain ⟨-, hm, hat⟩ := hs.at_
      unfold maxLen at hm
      obtain ⟨b0, o0, rfl, hab, hcell⟩ := hat 0 (by simp)
      have y0 : w.cell? ⟨b0, o0, none⟩ = some (.string s) := by have := hcell 0 _ (by decide) rfl; simpa [encN] using this
      obtain ⟨n, hn⟩ : ∃ n, n = Lr.length := ⟨_, rfl⟩
      have hn1 : (s :: Lr).length = n + 1 := by rw [hn]; rfl
      rw [hn1] at h0 hm
      have hc1 : n + 1 ≤ c := by
        obtain ⟨p', c', e, h2, h3, h4⟩ := hs
        injection e with e1 e2 e3
        subst e3
        rw [hn1] at h2
        exact h2
      have hcm : c ≤ 9223372036854775807 := by
        obtain ⟨p', c', e, h2, h3, h4⟩ := hs
        injection e with e1 e2 e3
        subst e3
        unfold maxLen at h3
        exact h3
      have hnq : (((n + 1 : Nat) : Int) == 0) = false := by rw [beq_eq_false_iff_ne]; omega
      have HN := Lib.hid hn
      have H0 := Lib.hid h0
      have H1 := Lib.hid h1
      have HF0 := Lib.hid f0
      have HF1 := Lib.hid f1
      clear hs hC hQ hat hcell hn hn1 hab
      go_enter Tryd.func63, Tryd.ntmps63
      go_wp2_with fail
      refine (HC.out w (Below.refl _ _)).mono ?_
      rintro e w2 ⟨⟨x, b, rfl, hq⟩, hb⟩
      have hlt : fb < w.heap.size := World.block_lt_of_cell? w _ H0.out
      have z0 : w2.cell? ⟨fb, 0, none⟩ = some (.slice (some ⟨b0, o0, none⟩) (n + 1) c) := (hb.cell hlt).trans H0.out
      have z1 : w2.cell? ⟨fb, 1, none⟩ = some (.bool false) := (hb.cell hlt).trans H1.out
      have g0 : w2.frozen? ⟨fb, 0, none⟩ = false := (hb.frozen hlt).trans HF0.out
      have g1 : w2.frozen? ⟨fb, 1, none⟩ = false := (hb.frozen hlt).trans HF1.out
      have HB := Lib.hid hb
      have HQ2 := Lib.hid hq
      clear hb hq hlt h0 h1 f0 f1 y0
      by_cases hcx : c = 1
      · subst hcx
        have hn0 : Lr = [] := List.eq_nil_of_length_eq_zero (by rw [← HN.out]; omega)
        have HN0 := Lib.hid hn0
        obtain rfl : n = 0 := by omega
        clear hn0
        have HFD : Hid (FldAt fb A ((w2.setCell ⟨fb, 0, none⟩ (.slice (some ⟨b0, o0, none⟩) 0 0)).setCell ⟨fb, 1, none⟩ (.bool !b)) Lr (!b)) := fld_step (!b) _ HS.out HB.out hA (by rw [z0]; rfl) (by rw [z1]; rfl) g0 g1 (fun h => fld_tail1 HN.out HN0.out)
        have hbut : But (fun a => a.block = fb) w2 ((w2.setCell ⟨fb, 0, none⟩ (.slice (some ⟨b0, o0, none⟩) 0 0)).setCell ⟨fb, 1, none⟩ (.bool !b)) := (But.setCell (M := fun a => a.block = fb) w2 ⟨fb, 0, none⟩ _ rfl).trans (But.setCell (M := fun a => a.block = fb) _ ⟨fb, 1, none⟩ _ rfl)
        have HBU := Lib.hid hbut
        have HQ3 := Lib.hid (HQ.out s _ _ x b hbut HQ2.out)
        clear hbut
        go_wp2_with fail
        go_ret
        exact ⟨NextP.go HFD.out HQ3.out, (But.of_below HB.out).trans HBU.out⟩
      · have hcy : 1 < c := by omega
        have hcy1 : ¬ c - 1 = 0 := by omega
        have HFD : Hid (FldAt fb A ((w2.setCell ⟨fb, 0, none⟩ (.slice (some ⟨b0, o0 + 1, none⟩) n (c - 1))).setCell ⟨fb, 1, none⟩ (.bool !b)) Lr (!b)) := fld_step (!b) _ HS.out HB.out hA (by rw [z0]; rfl) (by rw [z1]; rfl) g0 g1 (fun h => fld_tail2 HN.out h)
        have hbut : But (fun a => a.block = fb) w2 ((w2.setCell ⟨fb, 0, none⟩ (.slice (some ⟨b0, o0 + 1, none⟩) n (c - 1))).setCell ⟨fb, 1, none⟩ (.bool !b)) := (But.setCell (M := fun a => a.block = fb) w2 ⟨fb, 0, none⟩ _ rfl).trans (But.setCell (M := fun a => a.block = fb) _ ⟨fb, 1, none⟩ _ rfl)
        have HBU := Lib.hid hbut
        have HQ3 := Lib.hid (HQ.out s _ _ x b hbut HQ2.out)
        clear hbut
        go_wp2_with fail
        go_ret
        exact ⟨NextP.go HFD.out HQ3.out, (But.of_below HB.out).trans HBU.out⟩

set_option maxHeartbeats 2000000 in
/-- next, at []recompile/api.Op -/
theorem next_ops (fb : Nat) (A : Nat → Prop) (L : List ByteArray) (fl : Bool) (w : World) (h : FldAt fb A w L fl) (hA : ∀ k, A k → k ≠ fb) (F : FuncId) (bs : Array Value)
    (hF : ∀ args w, (callFunc F args).run Tryd.prog w = .ok (.enter F args) w) (Q : ByteArray → World → Value → Bool → Prop)
    (hC : ∀ s ∈ L, ∀ w1, Below w.heap.size w w1 → Calls Tryd.prog F (#[.string s] ++ bs) w1 fun e w2 => (∃ x b, e = .returned (.tuple #[x, .bool b]) ∧ Q s w2 x b) ∧ Below w1.heap.size w1 w2)
    (hQ : ∀ s w2 w3 x b, But (fun a => a.block = fb) w2 w3 → Q s w2 x b → Q s w3 x b) :
    Calls Tryd.prog 32 #[.pointer (some ⟨fb, 0, none⟩), .func (.func F) #[] bs] w fun e w' => NextP Q fb A L fl (.slice none 0 0) e w' ∧ But (fun a => a.block = fb) w w' := by
  obtain ⟨⟨p, c, h0, hs⟩, h1, f0, f1⟩ := h
  have HS := Lib.hid hs
  cases fl with
  | true =>
    have HF : Hid (FldAt fb A (w.setCell ⟨fb, 1, none⟩ (.bool true)) L true) := fld_flag ⟨⟨p, c, h0, hs⟩, h1, f0, f1⟩ hA
    have HB : Hid (But (fun a => a.block = fb) w (w.setCell ⟨fb, 1, none⟩ (.bool true))) := But.setCell w _ _ rfl
    clear hs hC hQ
    go_enter Tryd.func32, Tryd.ntmps32
    go_wp2_with fail
    go_ret
    exact ⟨NextP.stop HF.out (.inl rfl), HB.out⟩
  | false =>
    cases L with
    | nil =>
      have hl0 : (([] : List ByteArray).length : Int) = 0 := rfl
      have HF : Hid (FldAt fb A (w.setCell ⟨fb, 1, none⟩ (.bool true)) [] true) := fld_flag ⟨⟨p, c, h0, hs⟩, h1, f0, f1⟩ hA
      have HB : Hid (But (fun a => a.block = fb) w (w.setCell ⟨fb, 1, none⟩ (.bool true))) := But.setCell w _ _ rfl
      have h00 : w.cell? ⟨fb, 0, none⟩ = some (.slice p 0 c) := h0
      clear hs hC hQ h0
      go_enter Tryd.func32, Tryd.ntmps32
      go_wp2_with fail
      go_ret
      exact ⟨NextP.stop HF.out (.inr rfl), HB.out⟩
    | cons s Lr =>
      have HC := Lib.hid (hC s (by simp))
      have HQ := Lib.hid hQ
      obtain ⟨-, hm, hat⟩ := hs.at_
      unfold maxLen at hm
      obtain ⟨b0, o0, rfl, hab, hcell⟩ := hat 0 (by simp)
      have y0 : w.cell? ⟨b0, o0, none⟩ = some (.string s) := by have := hcell 0 _ (by decide) rfl; simpa [encN] using this
      obtain ⟨n, hn⟩ : ∃ n, n = Lr.length := ⟨_, rfl⟩
      have hn1 : (s :: Lr).length = n + 1 := by rw [hn]; rfl
      rw [hn1] at h0 hm
      have hc1 : n + 1 ≤ c := by
        obtain ⟨p', c', e, h2, h3, h4⟩ := hs
        injection e with e1 e2 e3
        subst e3
        rw [hn1] at h2
        exact h2
      have hcm : c ≤ 9223372036854775807 := by
        obtain ⟨p', c', e, h2, h3, h4⟩ := hs
        injection e with e1 e2 e3
        subst e3
        unfold maxLen at h3
        exact h3
      have hnq : (((n + 1 : Nat) : Int) == 0) = false := by rw [beq_eq_false_iff_ne]; omega
      have HN := Lib.hid hn
      have H0 := Lib.hid h0
      have H1 := Lib.hid h1
      have HF0 := Lib.hid f0
      have HF1 := Lib.hid f1
      clear hs hC hQ hat hcell hn hn1 hab
      go_enter Tryd.func32, Tryd.ntmps32
      go_wp2_with fail
      refine (HC.out w (Below.refl _ _)).mono ?_
      rintro e w2 ⟨⟨x, b, rfl, hq⟩, hb⟩
      have hlt : fb < w.heap.size := World.block_lt_of_cell? w _ H0.out
      have z0 : w2.cell? ⟨fb, 0, none⟩ = some (.slice (some ⟨b0, o0, none⟩) (n + 1) c) := (hb.cell hlt).trans H0.out
      have z1 : w2.cell? ⟨fb, 1, none⟩ = some (.bool false) := (hb.cell hlt).trans H1.out
      have g0 : w2.frozen? ⟨fb, 0, none⟩ = false := (hb.frozen hlt).trans HF0.out
      have g1 : w2.frozen? ⟨fb, 1, none⟩ = false := (hb.frozen hlt).trans HF1.out
      have HB := Lib.hid hb
      have HQ2 := Lib.hid hq
      clear hb hq hlt h0 h1 f0 f1 y0
      by_cases hcx : c = 1
      · subst hcx
        have hn0 : Lr = [] := List.eq_nil_of_length_eq_zero (by rw [← HN.out]; omega)
        have HN0 := Lib.hid hn0
        obtain rfl : n = 0 := by omega
        clear hn0
        have HFD : Hid (FldAt fb A ((w2.setCell ⟨fb, 0, none⟩ (.slice (some ⟨b0, o0, none⟩) 0 0)).setCell ⟨fb, 1, none⟩ (.bool !b)) Lr (!b)) := fld_step (!b) _ HS.out HB.out hA (by rw [z0]; rfl) (by rw [z1]; rfl) g0 g1 (fun h => fld_tail1 HN.out HN0.out)
        have hbut : But (fun a => a.block = fb) w2 ((w2.setCell ⟨fb, 0, none⟩ (.slice (some ⟨b0, o0, none⟩) 0 0)).setCell ⟨fb, 1, none⟩ (.bool !b)) := (But.setCell (M := fun a => a.block = fb) w2 ⟨fb, 0, none⟩ _ rfl).trans (But.setCell (M := fun a => a.block = fb) _ ⟨fb, 1, none⟩ _ rfl)
        have HBU := Lib.hid hbut
        have HQ3 := Lib.hid (HQ.out s _ _ x b hbut HQ2.out)
        clear hbut
        go_wp2_with fail
        go_ret
        exact ⟨NextP.go HFD.out HQ3.out, (But.of_below HB.out).trans HBU.out⟩
      · have hcy : 1 < c := by omega
        have hcy1 : ¬ c - 1 = 0 := by omega
        have HFD : Hid (FldAt fb A ((w2.setCell ⟨fb, 0, none⟩ (.slice (some ⟨b0, o0 + 1, none⟩) n (c - 1))).setCell ⟨fb, 1, none⟩ (.bool !b)) Lr (!b)) := fld_step (!b) _ HS.out HB.out hA (by rw [z0]; rfl) (by rw [z1]; rfl) g0 g1 (fun h => fld_tail2 HN.out h)
        have hbut : But (fun a => a.block = fb) w2 ((w2.setCell ⟨fb, 0, none⟩ (.slice (some ⟨b0, o0 + 1, none⟩) n (c - 1))).setCell ⟨fb, 1, none⟩ (.bool !b)) := (But.setCell (M := fun a => a.block = fb) w2 ⟨fb, 0, none⟩ _ rfl).trans (But.setCell (M := fun a => a.block = fb) _ ⟨fb, 1, none⟩ _ rfl)
        have HBU := Lib.hid hbut
        have HQ3 := Lib.hid (HQ.out s _ _ x b hbut HQ2.out)
        clear hbut
        go_wp2_with fail
        go_ret
        exact ⟨NextP.go HFD.out HQ3.out, (But.of_below HB.out).trans HBU.out⟩

set_option maxHeartbeats 2000000 in
/-- next, at string -/
theorem next_str (fb : Nat) (A : Nat → Prop) (L : List ByteArray) (fl : Bool) (w : World) (h : FldAt fb A w L fl) (hA : ∀ k, A k → k ≠ fb) (F : FuncId) (bs : Array Value)
    (hF : ∀ args w, (callFunc F args).run Tryd.prog w = .ok (.enter F args) w) (Q : ByteArray → World → Value → Bool → Prop)
    (hC : ∀ s ∈ L, ∀ w1, Below w.heap.size w w1 → Calls Tryd.prog F (#[.string s] ++ bs) w1 fun e w2 => (∃ x b, e = .returned (.tuple #[x, .bool b]) ∧ Q s w2 x b) ∧ Below w1.heap.size w1 w2)
    (hQ : ∀ s w2 w3 x b, But (fun a => a.block = fb) w2 w3 → Q s w2 x b → Q s w3 x b) :
    Calls Tryd.prog 65 #[.pointer (some ⟨fb, 0, none⟩), .func (.func F) #[] bs] w fun e w' => NextP Q fb A L fl (.string ⟨#[]⟩) e w' ∧ But (fun a => a.block = fb) w w' := by
  obtain ⟨⟨p, c, h0, hs⟩, h1, f0, f1⟩ := h
  have HS := Lib.hid hs
  cases fl with
  | true =>
    have HF : Hid (FldAt fb A (w.setCell ⟨fb, 1, none⟩ (.bool true)) L true) := fld_flag ⟨⟨p, c, h0, hs⟩, h1, f0, f1⟩ hA
    have HB : Hid (But (fun a => a.block = fb) w (w.setCell ⟨fb, 1, none⟩ (.bool true))) := But.setCell w _ _ rfl
    clear hs hC hQ
    go_enter Tryd.func65, Tryd.ntmps65
    go_wp2_with fail
    go_ret
    exact ⟨NextP.stop HF.out (.inl rfl), HB.out⟩
  | false =>
    cases L with
    | nil =>
      have hl0 : (([] : List ByteArray).length : Int) = 0 := rfl
      have HF : Hid (FldAt fb A (w.setCell ⟨fb, 1, none⟩ (.bool true)) [] true) := fld_flag ⟨⟨p, c, h0, hs⟩, h1, f0, f1⟩ hA
      have HB : Hid (But (fun a => a.block = fb) w (w.setCell ⟨fb, 1, none⟩ (.bool true))) := But.setCell w _ _ rfl
      have h00 : w.cell? ⟨fb, 0, none⟩ = some (.slice p 0 c) := h0
      clear hs hC hQ h0
      go_enter Tryd.func65, Tryd.ntmps65
      go_wp2_with fail
      go_ret
      exact ⟨NextP.stop HF.out (.inr rfl), HB.out⟩
    | cons s Lr =>
      have HC := Lib.hid (hC s (by simp))
      have HQ := Lib.hid hQ
      obtain ⟨-, hm, hat⟩ := hs.at_
      unfold maxLen at hm
      obtain ⟨b0, o0, rfl, hab, hcell⟩ := hat 0 (by simp)
      have y0 : w.cell? ⟨b0, o0, none⟩ = some (.string s) := by have := hcell 0 _ (by decide) rfl; simpa [encN] using this
      obtain ⟨n, hn⟩ : ∃ n, n = Lr.length := ⟨_, rfl⟩
      have hn1 : (s :: Lr).length = n + 1 := by rw [hn]; rfl
      rw [hn1] at h0 hm
      have hc1 : n + 1 ≤ c := by
        obtain ⟨p', c', e, h2, h3, h4⟩ := hs
        injection e with e1 e2 e3
        subst e3
        rw [hn1] at h2
        exact h2
      have hcm : c ≤ 9223372036854775807 := by
        obtain ⟨p', c', e, h2, h3, h4⟩ := hs
        injection e with e1 e2 e3
        subst e3
        unfold maxLen at h3
        exact h3
      have hnq : (((n + 1 : Nat) : Int) == 0) = false := by rw [beq_eq_false_iff_ne]; omega
      have HN := Lib.hid hn
      have H0 := Lib.hid h0
      have H1 := Lib.hid h1
      have HF0 := Lib.hid f0
      have HF1 := Lib.hid f1
      clear hs hC hQ hat hcell hn hn1 hab
      go_enter Tryd.func65, Tryd.ntmps65
      go_wp2_with fail
      refine (HC.out w (Below.refl _ _)).mono ?_
      rintro e w2 ⟨⟨x, b, rfl, hq⟩, hb⟩
      have hlt : fb < w.heap.size := World.block_lt_of_cell? w _ H0.out
      have z0 : w2.cell? ⟨fb, 0, none⟩ = some (.slice (some ⟨b0, o0, none⟩) (n + 1) c) := (hb.cell hlt).trans H0.out
      have z1 : w2.cell? ⟨fb, 1, none⟩ = some (.bool false) := (hb.cell hlt).trans H1.out
      have g0 : w2.frozen? ⟨fb, 0, none⟩ = false := (hb.frozen hlt).trans HF0.out
      have g1 : w2.frozen? ⟨fb, 1, none⟩ = false := (hb.frozen hlt).trans HF1.out
      have HB := Lib.hid hb
      have HQ2 := Lib.hid hq
      clear hb hq hlt h0 h1 f0 f1 y0
      by_cases hcx : c = 1
      · subst hcx
        have hn0 : Lr = [] := List.eq_nil_of_length_eq_zero (by rw [← HN.out]; omega)
        have HN0 := Lib.hid hn0
        obtain rfl : n = 0 := by omega
        clear hn0
        have HFD : Hid (FldAt fb A ((w2.setCell ⟨fb, 0, none⟩ (.slice (some ⟨b0, o0, none⟩) 0 0)).setCell ⟨fb, 1, none⟩ (.bool !b)) Lr (!b)) := fld_step (!b) _ HS.out HB.out hA (by rw [z0]; rfl) (by rw [z1]; rfl) g0 g1 (fun h => fld_tail1 HN.out HN0.out)
        have hbut : But (fun a => a.block = fb) w2 ((w2.setCell ⟨fb, 0, none⟩ (.slice (some ⟨b0, o0, none⟩) 0 0)).setCell ⟨fb, 1, none⟩ (.bool !b)) := (But.setCell (M := fun a => a.block = fb) w2 ⟨fb, 0, none⟩ _ rfl).trans (But.setCell (M := fun a => a.block = fb) _ ⟨fb, 1, none⟩ _ rfl)
        have HBU := Lib.hid hbut
        have HQ3 := Lib.hid (HQ.out s _ _ x b hbut HQ2.out)
        clear hbut
        go_wp2_with fail
        go_ret
        exact ⟨NextP.go HFD.out HQ3.out, (But.of_below HB.out).trans HBU.out⟩
      · have hcy : 1 < c := by omega
        have hcy1 : ¬ c - 1 = 0 := by omega
        have HFD : Hid (FldAt fb A ((w2.setCell ⟨fb, 0, none⟩ (.slice (some ⟨b0, o0 + 1, none⟩) n (c - 1))).setCell ⟨fb, 1, none⟩ (.bool !b)) Lr (!b)) := fld_step (!b) _ HS.out HB.out hA (by rw [z0]; rfl) (by rw [z1]; rfl) g0 g1 (fun h => fld_tail2 HN.out h)
        have hbut : But (fun a => a.block = fb) w2 ((w2.setCell ⟨fb, 0, none⟩ (.slice (some ⟨b0, o0 + 1, none⟩) n (c - 1))).setCell ⟨fb, 1, none⟩ (.bool !b)) := (But.setCell (M := fun a => a.block = fb) w2 ⟨fb, 0, none⟩ _ rfl).trans (But.setCell (M := fun a => a.block = fb) _ ⟨fb, 1, none⟩ _ rfl)
        have HBU := Lib.hid hbut
        have HQ3 := Lib.hid (HQ.out s _ _ x b hbut HQ2.out)
        clear hbut
        go_wp2_with fail
        go_ret
        exact ⟨NextP.go HFD.out HQ3.out, (But.of_below HB.out).trans HBU.out⟩
end Go.Proofs.YthikdkeanndidaaDoor
