/-
  CONTRACTS: fact.next at what reads numbers, lists and texts; fact.readOp.
-/
import Derived.Test.YthikdkeanndidaaDoorCi
namespace Go.Proofs.YthikdkeanndidaaDoor
open Go Go.RowKit
set_option linter.unusedVariables false
set_option linter.unusedSimpArgs false
set_option maxRecDepth 100000

/-- one field has been read, or there is none that can be -/
def Stp (L : List ByteArray) (fl : Bool) (L' : List ByteArray) (fl' : Bool) (T F : ByteArray → Prop) : Prop := (fl' = false → fl = false ∧ ∃ s, L = s :: L' ∧ T s) ∧ (fl' = true → fl = true ∨ L = [] ∨ ∃ s Lr, L = s :: Lr ∧ F s)
theorem Stp.good {L L' Lr : List ByteArray} {fl fl' : Bool} {T F : ByteArray → Prop} {s : ByteArray} (h : Stp L fl L' fl' T F) (hf : fl = false) (hL : L = s :: Lr) (hn : ¬ F s) : fl' = false ∧ L' = Lr := by
  subst hf
  subst hL
  cases fl' with
  | false =>
    obtain ⟨-, s', e, -⟩ := h.1 rfl
    injection e with e1 e2
    exact ⟨rfl, e2.symm⟩
  | true =>
    rcases h.2 rfl with e | e | ⟨s', Lr', e, hF⟩
    · cases e
    · cases e
    · injection e with e1 e2
      subst e1
      exact absurd hF hn
abbrev AtB (fb : Nat) : Addr → Prop := fun a => a.block = fb
theorem rdg_no {α : Type} {S : α → ByteArray} {Ok : α → Prop} {y : α} (hy : Ok y) : ¬ (∀ z, Ok z → S z ≠ S y) := fun h => h y hy rfl
theorem num_rdg {s : ByteArray} {n : Int} (h : ∀ v, Fa.numOf s.data.toList = some v → n = v) : Fa.Rdg itS InI s n (Fa.numOf s.data.toList).isSome := by
  cases ho : Fa.numOf s.data.toList with
  | none =>
    refine ⟨fun e => (by cases e), fun _ y hy e => ?_⟩
    have := Fa.numOf_itoa y hy.1 hy.2
    rw [← itS_data, e, ho] at this
    cases this
  | some v =>
    obtain ⟨e, h0, h1⟩ := Fa.numOf_some ho
    have hv := h v ho
    subst hv
    exact ⟨fun _ => ⟨ByteArray.ext (Array.toList_inj.1 (by rw [itS_data]; exact e)), h0, h1⟩, fun e => by cases e⟩
/-- a number, as a field -/
theorem nextI_any (fb : Nat) (A : Nat → Prop) (L : List ByteArray) (fl : Bool) (w : World) (h : FldAt fb A w L fl) (hA : ∀ k, A k → k ≠ fb) (hz : ∀ s ∈ L, s.size ≤ 1000000000) (hw : LaidW w) :
    Calls Tryd.prog 30 #[.pointer (some ⟨fb, 0, none⟩), .func (.func 31) #[] #[]] w fun e w' =>
      (∃ n L' fl', e = .returned (.int .i64 n) ∧ FldAt fb A w' L' fl' ∧ (∀ s ∈ L', s ∈ L) ∧ Stp L fl L' fl' (fun s => itS n = s ∧ InI n) (fun s => ∀ y, InI y → itS y ≠ s)) ∧ But (AtB fb) w w' := by
  refine (next_int fb A L fl w h hA 31 #[] (fun _ _ => rfl) (fun s _ x b => ∃ n, x = .int .i64 n ∧ Fa.Rdg itS InI s n b) (fun s hs w1 hb => ?_) (fun s w2 w3 x b _ hq => hq)).mono ?_
  · refine (number_any s w1 (hz s hs) (hw.below hb)).mono ?_
    rintro e w2 ⟨⟨n, rfl, hn⟩, hb2⟩
    exact ⟨⟨_, _, rfl, n, rfl, num_rdg hn⟩, hb2⟩
  · rintro e w' ⟨⟨x, L', fl', rfl, hf, hm, h1, h2, h3⟩, hb⟩
    obtain ⟨n, rfl⟩ : ∃ n, x = .int .i64 n := by
      rcases h3 with rfl | ⟨s, b, n, rfl, _⟩
      · exact ⟨0, rfl⟩
      · exact ⟨n, rfl⟩
    refine ⟨⟨n, L', fl', rfl, hf, hm, fun e => ?_, fun e => ?_⟩, hb⟩
    · obtain ⟨e1, s, e2, m, e3, hr⟩ := h1 e
      injection e3 with _ e3
      subst e3
      exact ⟨e1, s, e2, hr.1 rfl⟩
    · rcases h2 e with e | e | ⟨s, Lr, e, m, _, hr⟩
      · exact .inl e
      · exact .inr (.inl e)
      · exact .inr (.inr ⟨s, Lr, e, hr.2 rfl⟩)
/-- a text, as a field -/
theorem nextS_any (fb : Nat) (A : Nat → Prop) (L : List ByteArray) (fl : Bool) (w : World) (h : FldAt fb A w L fl) (hA : ∀ k, A k → k ≠ fb) :
    Calls Tryd.prog 65 #[.pointer (some ⟨fb, 0, none⟩), .func (.func 66) #[] #[]] w fun e w' =>
      (∃ x L' fl', e = .returned (.string x) ∧ FldAt fb A w' L' fl' ∧ (∀ s ∈ L', s ∈ L) ∧ Stp L fl L' fl' (fun s => x = s) (fun s => False)) ∧ But (AtB fb) w w' := by
  refine (next_str fb A L fl w h hA 66 #[] (fun _ _ => rfl) (fun s _ x b => x = .string s ∧ b = true) (fun s hs w1 hb => ?_) (fun s w2 w3 x b _ hq => hq)).mono ?_
  · refine (readText_any s w1).mono ?_
    rintro e w2 ⟨rfl, hb2⟩
    exact ⟨⟨_, _, rfl, rfl, rfl⟩, hb2⟩
  · rintro e w' ⟨⟨x, L', fl', rfl, hf, hm, h1, h2, h3⟩, hb⟩
    obtain ⟨y, rfl⟩ : ∃ y, x = .string y := by
      rcases h3 with rfl | ⟨s, b, rfl, _⟩
      · exact ⟨_, rfl⟩
      · exact ⟨_, rfl⟩
    refine ⟨⟨y, L', fl', rfl, hf, hm, fun e => ?_, fun e => ?_⟩, hb⟩
    · obtain ⟨e1, s, e2, e3, _⟩ := h1 e
      injection e3 with e3
      exact ⟨e1, s, e2, e3⟩
    · rcases h2 e with e | e | ⟨s, Lr, e, _, hr⟩
      · exact .inl e
      · exact .inr (.inl e)
      · cases hr
/-- a list of numbers, as a field -/
theorem nextL_any (fb cb : Nat) (A : Nat → Prop) (L : List ByteArray) (fl : Bool) (w : World) (h : FldAt fb A w L fl) (hA : ∀ k, A k → k ≠ fb) (hz : ∀ s ∈ L, s.size ≤ 1000000000) (hw : LaidW w)
    (hcl : w.cell? ⟨cb, 0, none⟩ = some (.func (.func 31) #[] #[])) :
    Calls Tryd.prog 63 #[.pointer (some ⟨fb, 0, none⟩), .func (.func 75) #[] #[.pointer (some ⟨cb, 0, none⟩)]] w fun e w' =>
      (∃ p l c L' fl', e = .returned (.slice p l.length c) ∧ SlA encI (fun k => w.heap.size ≤ k) w' (.slice p l.length c) l ∧ FldAt fb A w' L' fl' ∧ (∀ s ∈ L', s ∈ L) ∧ Stp L fl L' fl' (fun s => Fa.numsS l = s ∧ ∀ n ∈ l, InI n) (fun s => ∀ y : List Int, (∀ n ∈ y, InI n) → Fa.numsS y ≠ s)) ∧ But (AtB fb) w w' := by
  have hlt := h.lt
  refine (next_ints fb A L fl w h hA 75 #[.pointer (some ⟨cb, 0, none⟩)] (fun _ _ => rfl) (fun s w' x b => ∃ l, SlA encI (fun k => w.heap.size ≤ k) w' x l ∧ Fa.Rdg Fa.numsS (fun l => ∀ n ∈ l, InI n) s l b) (fun s hs w1 hb => ?_) (fun s w2 w3 x b hb hq => ?_)).mono ?_
  · refine (readInts_any s cb w1 (hz s hs) (hw.below hb) 31 #[] (by rw [hb.cell (World.block_lt_of_cell? w _ hcl)]; exact hcl) (fun _ _ => rfl) (fun p hp w2 hb2 => ?_)).mono ?_
    · refine (number_any p w2 hp ((hw.below hb).below hb2)).mono ?_
      rintro e w3 ⟨⟨n, rfl, hn⟩, hb3⟩
      exact ⟨⟨n, _, rfl, num_rdg hn⟩, hb3⟩
    · rintro e w2 ⟨⟨v, l, b, rfl, ho, hr⟩, hb2⟩
      exact ⟨⟨_, _, rfl, l, ho.sla.mono (fun k hk => Nat.le_trans hb.size hk), hr⟩, hb2⟩
  · obtain ⟨l, hs, hr⟩ := hq
    exact ⟨l, hs.keep (Kp.but hb (fun a ha e => by have : a.block = fb := e; omega)), hr⟩
  · rintro e w' ⟨⟨x, L', fl', rfl, hf, hm, h1, h2, h3⟩, hb⟩
    have hsh : ∃ l, SlA encI (fun k => w.heap.size ≤ k) w' x l ∧ (fl' = false → fl = false ∧ ∃ s, L = s :: L' ∧ Fa.numsS l = s ∧ ∀ n ∈ l, InI n) := by
      cases fl' with
      | false =>
        obtain ⟨e1, s, e2, l, hs, hr⟩ := h1 rfl
        exact ⟨l, hs, fun _ => ⟨e1, s, e2, hr.1 rfl⟩⟩
      | true =>
        rcases h3 with rfl | ⟨s, b, l, hs, _⟩
        · exact ⟨[], SlA.isNil _ _ _, fun e => by cases e⟩
        · exact ⟨l, hs, fun e => by cases e⟩
    obtain ⟨l, hs, hg⟩ := hsh
    obtain ⟨p, c, rfl, hs2⟩ := hs.shape
    refine ⟨⟨p, l, c, L', fl', rfl, hs2, hf, hm, hg, fun e => ?_⟩, hb⟩
    rcases h2 e with e | e | ⟨s, Lr, e, m, _, hr⟩
    · exact .inl e
    · exact .inr (.inl e)
    · exact .inr (.inr ⟨s, Lr, e, hr.2 rfl⟩)
theorem zero_rdg {s : ByteArray} (h : ∀ o : Opp, o.Ok → Fa.opS o ≠ s) (o : Opp) : Fa.Rdg Fa.opS Opp.Ok s o false := ⟨fun e => (by cases e), fun _ => h⟩
theorem got_small {s : ByteArray} {L : List ByteArray} {b : Bool} (hs : s.size ≤ 1000000000) (hg : Fa.Got s.data.toList L b) : ∀ x ∈ L, x.size ≤ 1000000000 := by
  intro x hx
  cases b with
  | false => rw [(hg.2 rfl).1] at hx; cases hx
  | true =>
    have := Fa.mem_size hx
    rw [hg.1 rfl, Fa.len_data] at this
    omega
theorem World.heap_lt {w : World} {b : Nat} {o : Obj} (h : w.heap[b]? = some o) : b < w.heap.size := by
  rcases Nat.lt_or_ge b w.heap.size with h' | h'
  · exact h'
  · rw [Array.getElem?_eq_none h'] at h; cases h
/-- six fields -/
theorem op_fields {s : ByteArray} {L0 L1 L2 L3 L4 L5 L6 : List ByteArray} {b0 f1 f2 f3 f4 f5 f6 : Bool} {n1 n2 n3 n4 : Int} {l5 : List Int} {x6 : ByteArray} (hsz : s.size < 9223372036854775808) (hg : Fa.Got s.data.toList L0 b0)
    (h1 : Stp L0 (!b0) L1 f1 (fun s => itS n1 = s ∧ InI n1) (fun s => ∀ y, InI y → itS y ≠ s)) (h2 : Stp L1 f1 L2 f2 (fun s => itS n2 = s ∧ InI n2) (fun s => ∀ y, InI y → itS y ≠ s))
    (h3 : Stp L2 f2 L3 f3 (fun s => itS n3 = s ∧ InI n3) (fun s => ∀ y, InI y → itS y ≠ s)) (h4 : Stp L3 f3 L4 f4 (fun s => itS n4 = s ∧ InI n4) (fun s => ∀ y, InI y → itS y ≠ s))
    (h5 : Stp L4 f4 L5 f5 (fun s => Fa.numsS l5 = s ∧ ∀ n ∈ l5, InI n) (fun s => ∀ y : List Int, (∀ n ∈ y, InI n) → Fa.numsS y ≠ s)) (h6 : Stp L5 f5 L6 f6 (fun s => x6 = s) (fun s => False)) :
    ((f6 = false ∧ L6 = []) → Fa.opS ⟨n1, n2, n3, n4, l5, x6⟩ = s ∧ (⟨n1, n2, n3, n4, l5, x6⟩ : Opp).Ok) ∧ (¬ (f6 = false ∧ L6 = []) → ∀ o : Opp, o.Ok → Fa.opS o ≠ s) := by
  refine ⟨?_, ?_⟩
  · rintro ⟨rfl, rfl⟩
    obtain ⟨rfl, s6, rfl, rfl⟩ := h6.1 rfl
    obtain ⟨rfl, s5, rfl, rfl, k5⟩ := h5.1 rfl
    obtain ⟨rfl, s4, rfl, rfl, k4⟩ := h4.1 rfl
    obtain ⟨rfl, s3, rfl, rfl, k3⟩ := h3.1 rfl
    obtain ⟨rfl, s2, rfl, rfl, k2⟩ := h2.1 rfl
    obtain ⟨e, s1, rfl, rfl, k1⟩ := h1.1 rfl
    have hb : b0 = true := by cases b0 <;> simp at e ⊢
    exact ⟨Fa.got_data (hg.1 hb), ⟨k1, k2, k3, k4, k5⟩⟩
  · intro hno o ho e
    have hL : b0 = true ∧ L0 = [itS o.kind, itS o.a, itS o.b, itS o.c, Fa.numsS o.list, o.sym] := by
      have hp : Fa.Got s.data.toList [itS o.kind, itS o.a, itS o.b, itS o.c, Fa.numsS o.list, o.sym] true := ⟨fun _ => by rw [← e, Fa.opS, Fa.packS_data], fun q => by cases q⟩
      obtain ⟨e1, e2⟩ := Fa.Got.same (by rw [Fa.len_data]; exact hsz) hg hp
      exact ⟨e2, e1⟩
    obtain ⟨hb, hL⟩ := hL
    obtain ⟨g1, k1⟩ := h1.good (by rw [hb]; rfl) hL (rdg_no ho.kind)
    obtain ⟨g2, k2⟩ := h2.good g1 k1 (rdg_no ho.a)
    obtain ⟨g3, k3⟩ := h3.good g2 k2 (rdg_no ho.b)
    obtain ⟨g4, k4⟩ := h4.good g3 k3 (rdg_no ho.c)
    obtain ⟨g5, k5⟩ := h5.good g4 k4 (rdg_no (S := Fa.numsS) (Ok := fun l => ∀ n ∈ l, InI n) ho.list)
    obtain ⟨g6, k6⟩ := h6.good g5 k5 (fun q => q)
    exact hno ⟨g6, k6⟩

set_option maxHeartbeats 4000000 in
/-- an operation that has been read -/
theorem readOp_any (s : ByteArray) (w : World) (hs : s.size ≤ 1000000000) (hw : LaidW w) :
    Calls Tryd.prog 34 #[.string s] w fun e w' => (∃ (r : Rop) (b : Bool), e = .returned (.tuple #[.agg #[.int .i64 r.1.kind, .int .i64 r.1.a, .int .i64 r.1.b, .int .i64 r.1.c, .slice r.2.1 r.1.list.length r.2.2, .string r.1.sym], .bool b]) ∧ SlA encI (fun k => w.heap.size ≤ k) w' r.sl r.1.list ∧ Fa.Rdg Fa.opS Opp.Ok s r.1 b) ∧ Below w.heap.size w w' := by
  have hb0 := below_box w (.cells #[.int .i64 0, .int .i64 0, .int .i64 0, .int .i64 0, .slice none 0 0, .string ⟨#[]⟩] 58)
  have HN0 : Hid ((w.alloc (.cells #[.int .i64 0, .int .i64 0, .int .i64 0, .int .i64 0, .slice none 0 0, .string ⟨#[]⟩] 58)).heap[w.heap.size]? = some (.cells #[.int .i64 0, .int .i64 0, .int .i64 0, .int .i64 0, .slice none 0 0, .string ⟨#[]⟩] 58)) := heap_alloc_new w _
  have HSZ : Hid ((w.alloc (.cells #[.int .i64 0, .int .i64 0, .int .i64 0, .int .i64 0, .slice none 0 0, .string ⟨#[]⟩] 58)).heap.size = w.heap.size + 1) := World.size_alloc _ _
  have HW := Lib.hid hw
  have HS0 : Hid (s.size < 9223372036854775808) := by show _ < _; omega
  have HSM : Hid (s.size ≤ 1000000000) := hs
  obtain ⟨w0, hw0⟩ : ∃ x, w.alloc (.cells #[.int .i64 0, .int .i64 0, .int .i64 0, .int .i64 0, .slice none 0 0, .string ⟨#[]⟩] 58) = x := ⟨_, rfl⟩
  rw [hw0] at hb0 HN0 HSZ
  have HB0 := Lib.hid hb0
  have HFO := Lib.hid (fieldsOf_any s w0 hs (hw.below hb0))
  clear hb0 hw
  go_enter Tryd.func34, Tryd.ntmps34
  go_wp2_with fail
  refine HFO.out.mono ?_
  rintro e v0 ⟨⟨fb, L0, b0, rfl, hfb, hf0, hg0⟩, hbv⟩
  have HAD : Hid (∀ k, (w0.heap.size ≤ k ∧ k < fb) → k ≠ fb) := fun k hk => by omega
  have HF0 := Lib.hid hf0
  have HM0 := Lib.hid (got_small hs hg0)
  have HG0 := Lib.hid hg0
  have HFB : Hid (w.heap.size < fb) := by show _ < _; have := HSZ.out; omega
  have HU0 : Hid (Below w.heap.size w v0) := HB0.out.trans (hbv.mono HB0.out.size)
  have HN1 : Hid (v0.heap[w.heap.size]? = some (.cells #[.int .i64 0, .int .i64 0, .int .i64 0, .int .i64 0, .slice none 0 0, .string ⟨#[]⟩] 58)) := by show _ = _; rw [hbv.block _ (by rw [HSZ.out]; omega)]; exact HN0.out
  clear hfb hf0 hg0 hbv HFO hw0
  go_wp2_with fail
  refine (nextI_any fb _ L0 (!b0) _ HF0.out HAD.out HM0.out (HW.out.below HU0.out)).mono ?_
  rintro e v1 ⟨⟨n1, L1, f1, rfl, hf1, hm1, hs1⟩, hb1⟩
  have HF1 := Lib.hid hf1
  have HM1 : Hid (∀ s ∈ L1, s.size ≤ 1000000000) := fun s h => HM0.out s (hm1 s h)
  have HS1 := Lib.hid hs1
  have HU1 : Hid (Below w.heap.size w v1) := HU0.out.trans (But.below hb1 HU0.out.size (fun a e => by have e' : a.block = fb := e; have := HFB.out; omega))
  have HN2 : Hid (v1.heap[w.heap.size]? = some (.cells #[.int .i64 0, .int .i64 0, .int .i64 0, .int .i64 0, .slice none 0 0, .string ⟨#[]⟩] 58)) := by show _ = _; rw [hb1.block _ (World.heap_lt HN1.out) (fun a e q => by have q1 : a.block = fb := q; have := HFB.out; omega)]; exact HN1.out
  clear HN1
  clear hf1 hm1 hs1 hb1 HF0 HM0 HU0
  go_wp2_with fail
  refine (nextI_any fb _ L1 f1 _ HF1.out HAD.out HM1.out (HW.out.below HU1.out)).mono ?_
  rintro e v2 ⟨⟨n2, L2, f2, rfl, hf2, hm2, hs2⟩, hb2⟩
  have HF2 := Lib.hid hf2
  have HM2 : Hid (∀ s ∈ L2, s.size ≤ 1000000000) := fun s h => HM1.out s (hm2 s h)
  have HS2 := Lib.hid hs2
  have HU2 : Hid (Below w.heap.size w v2) := HU1.out.trans (But.below hb2 HU1.out.size (fun a e => by have e' : a.block = fb := e; have := HFB.out; omega))
  have HN3 : Hid (v2.heap[w.heap.size]? = some (.cells #[.int .i64 0, .int .i64 0, .int .i64 0, .int .i64 0, .slice none 0 0, .string ⟨#[]⟩] 58)) := by show _ = _; rw [hb2.block _ (World.heap_lt HN2.out) (fun a e q => by have q1 : a.block = fb := q; have := HFB.out; omega)]; exact HN2.out
  clear HN2
  clear hf2 hm2 hs2 hb2 HF1 HM1 HU1
  go_wp2_with fail
  refine (nextI_any fb _ L2 f2 _ HF2.out HAD.out HM2.out (HW.out.below HU2.out)).mono ?_
  rintro e v3 ⟨⟨n3, L3, f3, rfl, hf3, hm3, hs3⟩, hb3⟩
  have HF3 := Lib.hid hf3
  have HM3 : Hid (∀ s ∈ L3, s.size ≤ 1000000000) := fun s h => HM2.out s (hm3 s h)
  have HS3 := Lib.hid hs3
  have HU3 : Hid (Below w.heap.size w v3) := HU2.out.trans (But.below hb3 HU2.out.size (fun a e => by have e' : a.block = fb := e; have := HFB.out; omega))
  have HN4 : Hid (v3.heap[w.heap.size]? = some (.cells #[.int .i64 0, .int .i64 0, .int .i64 0, .int .i64 0, .slice none 0 0, .string ⟨#[]⟩] 58)) := by show _ = _; rw [hb3.block _ (World.heap_lt HN3.out) (fun a e q => by have q1 : a.block = fb := q; have := HFB.out; omega)]; exact HN3.out
  clear HN3
  clear hf3 hm3 hs3 hb3 HF2 HM2 HU2
  go_wp2_with fail
  refine (nextI_any fb _ L3 f3 _ HF3.out HAD.out HM3.out (HW.out.below HU3.out)).mono ?_
  rintro e v4 ⟨⟨n4, L4, f4, rfl, hf4, hm4, hs4⟩, hb4⟩
  have HF4 := Lib.hid hf4
  have HM4 : Hid (∀ s ∈ L4, s.size ≤ 1000000000) := fun s h => HM3.out s (hm4 s h)
  have HS4 := Lib.hid hs4
  have HU4 : Hid (Below w.heap.size w v4) := HU3.out.trans (But.below hb4 HU3.out.size (fun a e => by have e' : a.block = fb := e; have := HFB.out; omega))
  have HN5 : Hid (v4.heap[w.heap.size]? = some (.cells #[.int .i64 0, .int .i64 0, .int .i64 0, .int .i64 0, .slice none 0 0, .string ⟨#[]⟩] 58)) := by show _ = _; rw [hb4.block _ (World.heap_lt HN4.out) (fun a e q => by have q1 : a.block = fb := q; have := HFB.out; omega)]; exact HN4.out
  clear HN4
  clear hf4 hm4 hs4 hb4 HF3 HM3 HU3
  go_wp2_with fail
  refine (listOf_int 31 #[] v4).mono ?_
  rintro e v ⟨rfl, rfl⟩
  have hcl : (v4.alloc (.cells #[.func (.func 31) #[] #[]] 69)).heap[v4.heap.size]? = some (.cells #[.func (.func 31) #[] #[]] 69) := heap_alloc_new v4 _
  have hcb := below_box v4 (.cells #[.func (.func 31) #[] #[]] 69)
  have HCL : Hid ((v4.alloc (.cells #[.func (.func 31) #[] #[]] 69)).cell? ⟨v4.heap.size, 0, none⟩ = some (.func (.func 31) #[] #[])) := by show _ = _; rw [Lib.cell_of_heap hcl]; rfl
  have HF4b := Lib.hid (HF4.out.below hcb)
  have HU4b := Lib.hid (HU4.out.trans (hcb.mono HU4.out.size))
  have HN6 : Hid ((v4.alloc (.cells #[.func (.func 31) #[] #[]] 69)).heap[w.heap.size]? = some (.cells #[.int .i64 0, .int .i64 0, .int .i64 0, .int .i64 0, .slice none 0 0, .string ⟨#[]⟩] 58)) := by show _ = _; rw [hcb.block _ (World.heap_lt HN5.out)]; exact HN5.out
  clear hcl hcb HF4 HU4 HN5
  obtain ⟨v4b, hv4⟩ : ∃ x, v4.alloc (.cells #[.func (.func 31) #[] #[]] 69) = x := ⟨_, rfl⟩
  rw [hv4] at HCL HF4b HU4b HN6
  go_wp2_with fail
  clear hv4
  refine (nextL_any fb v4.heap.size _ L4 f4 _ HF4b.out HAD.out HM4.out (HW.out.below HU4b.out) HCL.out).mono ?_
  rintro e v5 ⟨⟨p5, l5, c5, L5, f5, rfl, hl5, hf5, hm5, hs5⟩, hb5⟩
  have HF5 := Lib.hid hf5
  have HM5 : Hid (∀ s ∈ L5, s.size ≤ 1000000000) := fun s h => HM4.out s (hm5 s h)
  have HS5 := Lib.hid hs5
  have HL5 : Hid (SlA encI (fun k => w.heap.size < k ∧ k ≠ fb) v5 (.slice p5 l5.length c5) l5) := hl5.mono (fun k hk => by have := HF4b.out.lt; have := HFB.out; omega)
  have HU5 : Hid (Below w.heap.size w v5) := HU4b.out.trans (But.below hb5 HU4b.out.size (fun a e => by have e' : a.block = fb := e; have := HFB.out; omega))
  have HN7 : Hid (v5.heap[w.heap.size]? = some (.cells #[.int .i64 0, .int .i64 0, .int .i64 0, .int .i64 0, .slice none 0 0, .string ⟨#[]⟩] 58)) := by show _ = _; rw [hb5.block _ (World.heap_lt HN6.out) (fun a e q => by have q1 : a.block = fb := q; have := HFB.out; omega)]; exact HN6.out
  clear hf5 hm5 hs5 hb5 hl5 HF4b HM4 HU4b HN6 HCL
  go_wp2_with fail
  refine (nextS_any fb _ L5 f5 _ HF5.out HAD.out).mono ?_
  rintro e v6 ⟨⟨x6, L6, f6, rfl, hf6, hm6, hs6⟩, hb6⟩
  have HF6 := Lib.hid hf6
  have HS6 := Lib.hid hs6
  have HU6 : Hid (Below w.heap.size w v6) := HU5.out.trans (But.below hb6 HU5.out.size (fun a e => by have e' : a.block = fb := e; have := HFB.out; omega))
  have HL6 : Hid (SlA encI (fun k => w.heap.size < k ∧ k ≠ fb) v6 (.slice p5 l5.length c5) l5) := HL5.out.keep (Kp.but hb6 (fun a ha e => ha.2 e))
  have HN8 : Hid (v6.heap[w.heap.size]? = some (.cells #[.int .i64 0, .int .i64 0, .int .i64 0, .int .i64 0, .slice none 0 0, .string ⟨#[]⟩] 58)) := by show _ = _; rw [hb6.block _ (World.heap_lt HN7.out) (fun a e q => by have q1 : a.block = fb := q; have := HFB.out; omega)]; exact HN7.out
  clear hf6 hm6 hs6 hb6 HF5 HM5 HU5 HN7 HL5
  go_wp2_with fail
  refine (end_op fb _ L6 f6 v6 HF6.out n1 n2 n3 n4 p5 l5.length c5 x6).mono ?_
  rintro e v7 ⟨he, hb7⟩
  have HU7 := Lib.hid (HU6.out.trans (hb7.mono HU6.out.size))
  have hn9 : v7.heap[w.heap.size]? = some (.cells #[.int .i64 0, .int .i64 0, .int .i64 0, .int .i64 0, .slice none 0 0, .string ⟨#[]⟩] 58) := by rw [hb7.block _ (World.heap_lt HN8.out)]; exact HN8.out
  have HL7 : Hid (SlA encI (fun k => w.heap.size < k ∧ k ≠ fb) v7 (.slice p5 l5.length c5) l5) := HL6.out.keep (Kp.below hb7)
  have HOP := Lib.hid (op_fields HS0.out HG0.out HS1.out HS2.out HS3.out HS4.out HS5.out HS6.out)
  clear hb7 HF6 HU6 HN8 HL6 HG0 HS1 HS2 HS3 HS4 HS5 HS6
  rcases he with ⟨hok, rfl⟩ | ⟨hok, rfl⟩
  · obtain ⟨e1, e2⟩ := HOP.out.1 hok
    have HR : Hid (Fa.Rdg Fa.opS Opp.Ok s ⟨n1, n2, n3, n4, l5, x6⟩ true) := ⟨fun _ => ⟨e1, e2⟩, fun e => by cases e⟩
    obtain ⟨⟨q0, q1, q2, q3, q4, q5⟩, ⟨g0, g1, g2, g3, g4, g5⟩, hfin⟩ := op_store hn9 n1 n2 n3 n4 p5 l5.length c5 x6
    have HLD := Lib.hid (load_op _ _ n1 n2 n3 n4 p5 l5.length c5 x6 hfin)
    have hbut := op_but (w := v7) (B := w.heap.size) n1 n2 n3 n4 p5 l5.length c5 x6
    have HBF := Lib.hid (HU7.out.trans (But.below hbut HU7.out.size (fun a e => by have e' : a.block = w.heap.size := e; omega)))
    have HLF := Lib.hid ((HL7.out.keep (Kp.but hbut (fun a ha e => by have e' : a.block = w.heap.size := e; have := ha.1; omega))).mono (B := fun k => w.heap.size ≤ k) (fun k hk => Nat.le_of_lt hk.1))
    clear e1 e2 hok hn9 hfin hbut HU7 HL7 HOP
    go_wp2_with fail
    exact bodyPost_ret (results_cell2 rfl _ _ _ ⟨w.heap.size, 0, none⟩ _ rfl HLD.out) rfl ⟨⟨(⟨n1, n2, n3, n4, l5, x6⟩, p5, c5), true, rfl, HLF.out, HR.out⟩, HBF.out⟩
  · have HR : Hid (Fa.Rdg Fa.opS Opp.Ok s ⟨0, 0, 0, 0, [], ⟨#[]⟩⟩ false) := zero_rdg (HOP.out.2 hok) _
    obtain ⟨⟨q0, q1, q2, q3, q4, q5⟩, ⟨g0, g1, g2, g3, g4, g5⟩, hfin⟩ := op_store hn9 0 0 0 0 none 0 0 ⟨#[]⟩
    have HLD := Lib.hid (load_op _ _ 0 0 0 0 none 0 0 ⟨#[]⟩ hfin)
    have hbut := op_but (w := v7) (B := w.heap.size) 0 0 0 0 none 0 0 ⟨#[]⟩
    have HBF := Lib.hid (HU7.out.trans (But.below hbut HU7.out.size (fun a e => by have e' : a.block = w.heap.size := e; omega)))
    clear hok hn9 hfin hbut HU7 HL7 HOP
    go_wp2_with fail
    exact bodyPost_ret (results_cell2 rfl _ _ _ ⟨w.heap.size, 0, none⟩ _ rfl HLD.out) rfl ⟨⟨(⟨0, 0, 0, 0, [], ⟨#[]⟩⟩, none, 0), false, rfl, SlA.isNil _ _ _, HR.out⟩, HBF.out⟩
end Go.Proofs.YthikdkeanndidaaDoor
