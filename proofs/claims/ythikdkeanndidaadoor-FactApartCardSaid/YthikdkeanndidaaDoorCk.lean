/-
  CONTRACT: fact.ReadCode.
-/
import Derived.Test.YthikdkeanndidaaDoorCj
namespace Go.Proofs.YthikdkeanndidaaDoor
open Go Go.RowKit
set_option linter.unusedVariables false
set_option linter.unusedSimpArgs false
set_option maxRecDepth 100000

/-- a list of operations, as a field -/
theorem nextO_any (fb cb : Nat) (A : Nat → Prop) (L : List ByteArray) (fl : Bool) (w : World) (h : FldAt fb A w L fl) (hA : ∀ k, A k → k ≠ fb) (hz : ∀ s ∈ L, s.size ≤ 1000000000) (hw : LaidW w)
    (hcl : w.cell? ⟨cb, 0, none⟩ = some (.func (.func 34) #[] #[])) :
    Calls Tryd.prog 32 #[.pointer (some ⟨fb, 0, none⟩), .func (.func 61) #[] #[.pointer (some ⟨cb, 0, none⟩)]] w fun e w' =>
      (∃ p l c L' fl', e = .returned (.slice p l.length c) ∧ OpsA (fun k => w.heap.size ≤ k) w' (.slice p l.length c) l ∧ FldAt fb A w' L' fl' ∧ (∀ s ∈ L', s ∈ L) ∧ Stp L fl L' fl' (fun s => opsS l = s ∧ ∀ o ∈ l, o.Ok) (fun s => ∀ y : List Opp, (∀ o ∈ y, o.Ok) → opsS y ≠ s)) ∧ But (AtB fb) w w' := by
  have hlt := h.lt
  refine (next_ops fb A L fl w h hA 61 #[.pointer (some ⟨cb, 0, none⟩)] (fun _ _ => rfl) (fun s w' x b => ∃ p l c, x = .slice p l.length c ∧ OpsA (fun k => w.heap.size ≤ k) w' x l ∧ Fa.Rdg opsS (fun l => ∀ o ∈ l, o.Ok) s l b) (fun s hs w1 hb => ?_) (fun s w2 w3 x b hb hq => ?_)).mono ?_
  · refine (readOps_any s cb w1 (hz s hs) (hw.below hb) 34 #[] (by rw [hb.cell (World.block_lt_of_cell? w _ hcl)]; exact hcl) (fun _ _ => rfl) (fun p hp w2 hb2 => readOp_any p w2 hp ((hw.below hb).below hb2))).mono ?_
    rintro e w2 ⟨⟨v, R, b, rfl, ho, hr⟩, hb2⟩
    obtain ⟨p, c, rfl, hops⟩ := ho.fin
    exact ⟨⟨_, _, rfl, p, _, c, rfl, hops.mono (fun k hk => Nat.le_trans hb.size hk), hr⟩, hb2⟩
  · obtain ⟨p, l, c, e, hs, hr⟩ := hq
    exact ⟨p, l, c, e, hs.keep (Kp.but hb (fun a ha e => by have : a.block = fb := e; omega)), hr⟩
  · rintro e w' ⟨⟨x, L', fl', rfl, hf, hm, h1, h2, h3⟩, hb⟩
    have hsh : ∃ p l c, x = .slice p l.length c ∧ OpsA (fun k => w.heap.size ≤ k) w' x l ∧ (fl' = false → fl = false ∧ ∃ s, L = s :: L' ∧ opsS l = s ∧ ∀ o ∈ l, o.Ok) := by
      cases fl' with
      | false =>
        obtain ⟨e1, s, e2, p, l, c, e, hs, hr⟩ := h1 rfl
        exact ⟨p, l, c, e, hs, fun _ => ⟨e1, s, e2, hr.1 rfl⟩⟩
      | true =>
        rcases h3 with rfl | ⟨s, b, p, l, c, e, hs, _⟩
        · exact ⟨none, [], 0, rfl, OpsA.isNil _ _, fun e => by cases e⟩
        · exact ⟨p, l, c, e, hs, fun e => by cases e⟩
    obtain ⟨p, l, c, rfl, hs2, hg⟩ := hsh
    refine ⟨⟨p, l, c, L', fl', rfl, hs2, hf, hm, hg, fun e => ?_⟩, hb⟩
    rcases h2 e with e | e | ⟨s, Lr, e, _, m, _, _, _, hr⟩
    · exact .inl e
    · exact .inr (.inl e)
    · exact .inr (.inr ⟨s, Lr, e, hr.2 rfl⟩)
/-- three fields -/
theorem cd_fields {s : ByteArray} {L0 L1 L2 L3 : List ByteArray} {b0 f1 f2 f3 : Bool} {n1 n2 : Int} {l3 : List Opp} (hsz : s.size < 9223372036854775808) (hg : Fa.Got s.data.toList L0 b0)
    (h1 : Stp L0 (!b0) L1 f1 (fun s => itS n1 = s ∧ InI n1) (fun s => ∀ y, InI y → itS y ≠ s)) (h2 : Stp L1 f1 L2 f2 (fun s => itS n2 = s ∧ InI n2) (fun s => ∀ y, InI y → itS y ≠ s))
    (h3 : Stp L2 f2 L3 f3 (fun s => opsS l3 = s ∧ ∀ o ∈ l3, o.Ok) (fun s => ∀ y : List Opp, (∀ o ∈ y, o.Ok) → opsS y ≠ s)) :
    ((f3 = false ∧ L3 = []) → Fa.cdS ⟨n1, n2, l3⟩ = s ∧ (⟨n1, n2, l3⟩ : Cdd).Ok) ∧ (¬ (f3 = false ∧ L3 = []) → ∀ x : Cdd, x.Ok → Fa.cdS x ≠ s) := by
  refine ⟨?_, ?_⟩
  · rintro ⟨rfl, rfl⟩
    obtain ⟨rfl, s3, rfl, rfl, k3⟩ := h3.1 rfl
    obtain ⟨rfl, s2, rfl, rfl, k2⟩ := h2.1 rfl
    obtain ⟨e, s1, rfl, rfl, k1⟩ := h1.1 rfl
    have hb : b0 = true := by cases b0 <;> simp at e ⊢
    exact ⟨Fa.got_data (hg.1 hb), ⟨k1, k2, k3⟩⟩
  · intro hno x hx e
    have hL : b0 = true ∧ L0 = [itS x.params, itS x.regs, opsS x.ops] := by
      have hp : Fa.Got s.data.toList [itS x.params, itS x.regs, opsS x.ops] true := ⟨fun _ => by rw [← e, Fa.cdS, Fa.packS_data]; rfl, fun q => by cases q⟩
      obtain ⟨e1, e2⟩ := Fa.Got.same (by rw [Fa.len_data]; exact hsz) hg hp
      exact ⟨e2, e1⟩
    obtain ⟨hb, hL⟩ := hL
    obtain ⟨g1, k1⟩ := h1.good (by rw [hb]; rfl) hL (rdg_no hx.params)
    obtain ⟨g2, k2⟩ := h2.good g1 k1 (rdg_no hx.regs)
    obtain ⟨g3, k3⟩ := h3.good g2 k2 (rdg_no (S := opsS) (Ok := fun l => ∀ o ∈ l, o.Ok) hx.ops)
    exact hno ⟨g3, k3⟩
/-- a code that has been read -/
def RdCode (base : Nat) (s : ByteArray) (e : Ending) (w' : World) : Prop := ∃ (x : Cdd) (p : Option Addr) (c : Nat) (b : Bool), e = .returned (.tuple #[.agg #[.int .i64 x.params, .int .i64 x.regs, .slice p x.ops.length c], .bool b]) ∧ OpsA (fun k => base ≤ k) w' (.slice p x.ops.length c) x.ops ∧ Fa.Rdg Fa.cdS Cdd.Ok s x b ∧ (b = false → x = cdd0)

set_option maxHeartbeats 4000000 in
/-- fact.ReadCode -/
theorem readCode_any (s : ByteArray) (w : World) (hs : s.size ≤ 1000000000) (hw : LaidW w) :
    Calls Tryd.prog 12 #[.string s] w fun e w' => RdCode w.heap.size s e w' ∧ Below w.heap.size w w' := by
  have hb0 := below_box w (.cells #[.int .i64 0, .int .i64 0, .slice none 0 0] 24)
  have HN0 : Hid ((w.alloc (.cells #[.int .i64 0, .int .i64 0, .slice none 0 0] 24)).heap[w.heap.size]? = some (.cells #[.int .i64 0, .int .i64 0, .slice none 0 0] 24)) := heap_alloc_new w _
  have HSZ : Hid ((w.alloc (.cells #[.int .i64 0, .int .i64 0, .slice none 0 0] 24)).heap.size = w.heap.size + 1) := World.size_alloc _ _
  have HW := Lib.hid hw
  have HS0 : Hid (s.size < 9223372036854775808) := by show _ < _; omega
  have HSM : Hid (s.size ≤ 1000000000) := hs
  obtain ⟨w0, hw0⟩ : ∃ x, w.alloc (.cells #[.int .i64 0, .int .i64 0, .slice none 0 0] 24) = x := ⟨_, rfl⟩
  rw [hw0] at hb0 HN0 HSZ
  have HB0 := Lib.hid hb0
  have HFO := Lib.hid (fieldsOf_any s w0 hs (hw.below hb0))
  clear hb0 hw
  go_enter Tryd.func12, Tryd.ntmps12
  go_wp2_with fail
  refine HFO.out.mono ?_
  rintro e v0 ⟨⟨fb, L0, b0, rfl, hfb, hf0, hg0⟩, hbv⟩
  have HAD : Hid (∀ k, (w0.heap.size ≤ k ∧ k < fb) → k ≠ fb) := fun k hk => by omega
  have HF0 := Lib.hid hf0
  have HM0 := Lib.hid (got_small hs hg0)
  have HG0 := Lib.hid hg0
  have HFB : Hid (w.heap.size < fb) := by show _ < _; have := HSZ.out; omega
  have HU0 : Hid (Below w.heap.size w v0) := HB0.out.trans (hbv.mono HB0.out.size)
  have HN1 : Hid (v0.heap[w.heap.size]? = some (.cells #[.int .i64 0, .int .i64 0, .slice none 0 0] 24)) := by show _ = _; rw [hbv.block _ (by rw [HSZ.out]; omega)]; exact HN0.out
  clear hfb hf0 hg0 hbv HFO hw0
  go_wp2_with fail
  refine (nextI_any fb _ L0 (!b0) _ HF0.out HAD.out HM0.out (HW.out.below HU0.out)).mono ?_
  rintro e v1 ⟨⟨n1, L1, f1, rfl, hf1, hm1, hs1⟩, hb1⟩
  have HF1 := Lib.hid hf1
  have HM1 : Hid (∀ s ∈ L1, s.size ≤ 1000000000) := fun s h => HM0.out s (hm1 s h)
  have HS1 := Lib.hid hs1
  have HU1 : Hid (Below w.heap.size w v1) := HU0.out.trans (But.below hb1 HU0.out.size (fun a e => by have e' : a.block = fb := e; have := HFB.out; omega))
  have HN2 : Hid (v1.heap[w.heap.size]? = some (.cells #[.int .i64 0, .int .i64 0, .slice none 0 0] 24)) := by show _ = _; rw [hb1.block _ (World.heap_lt HN1.out) (fun a e q => by have q1 : a.block = fb := q; have := HFB.out; omega)]; exact HN1.out
  clear HN1
  clear hf1 hm1 hs1 hb1 HF0 HM0 HU0
  go_wp2_with fail
  refine (nextI_any fb _ L1 f1 _ HF1.out HAD.out HM1.out (HW.out.below HU1.out)).mono ?_
  rintro e v2 ⟨⟨n2, L2, f2, rfl, hf2, hm2, hs2⟩, hb2⟩
  have HF2 := Lib.hid hf2
  have HM2 : Hid (∀ s ∈ L2, s.size ≤ 1000000000) := fun s h => HM1.out s (hm2 s h)
  have HS2 := Lib.hid hs2
  have HU2 : Hid (Below w.heap.size w v2) := HU1.out.trans (But.below hb2 HU1.out.size (fun a e => by have e' : a.block = fb := e; have := HFB.out; omega))
  have HN3 : Hid (v2.heap[w.heap.size]? = some (.cells #[.int .i64 0, .int .i64 0, .slice none 0 0] 24)) := by show _ = _; rw [hb2.block _ (World.heap_lt HN2.out) (fun a e q => by have q1 : a.block = fb := q; have := HFB.out; omega)]; exact HN2.out
  clear HN2
  clear hf2 hm2 hs2 hb2 HF1 HM1 HU1
  go_wp2_with fail
  refine (listOf_op 34 #[] v2).mono ?_
  rintro e v ⟨rfl, rfl⟩
  have hcl : (v2.alloc (.cells #[.func (.func 34) #[] #[]] 73)).heap[v2.heap.size]? = some (.cells #[.func (.func 34) #[] #[]] 73) := heap_alloc_new v2 _
  have hcb := below_box v2 (.cells #[.func (.func 34) #[] #[]] 73)
  have HCL : Hid ((v2.alloc (.cells #[.func (.func 34) #[] #[]] 73)).cell? ⟨v2.heap.size, 0, none⟩ = some (.func (.func 34) #[] #[])) := by show _ = _; rw [Lib.cell_of_heap hcl]; rfl
  have HF2b := Lib.hid (HF2.out.below hcb)
  have HU2b := Lib.hid (HU2.out.trans (hcb.mono HU2.out.size))
  have HN4 : Hid ((v2.alloc (.cells #[.func (.func 34) #[] #[]] 73)).heap[w.heap.size]? = some (.cells #[.int .i64 0, .int .i64 0, .slice none 0 0] 24)) := by show _ = _; rw [hcb.block _ (World.heap_lt HN3.out)]; exact HN3.out
  clear hcl hcb HF2 HU2 HN3
  obtain ⟨v2b, hv2⟩ : ∃ x, v2.alloc (.cells #[.func (.func 34) #[] #[]] 73) = x := ⟨_, rfl⟩
  rw [hv2] at HCL HF2b HU2b HN4
  go_wp2_with fail
  clear hv2
  refine (nextO_any fb v2.heap.size _ L2 f2 _ HF2b.out HAD.out HM2.out (HW.out.below HU2b.out) HCL.out).mono ?_
  rintro e v3 ⟨⟨p3, l3, c3, L3, f3, rfl, hl3, hf3, hm3, hs3⟩, hb3⟩
  have HF3 := Lib.hid hf3
  have HS3 := Lib.hid hs3
  have HL3 : Hid (OpsA (fun k => w.heap.size < k ∧ k ≠ fb) v3 (.slice p3 l3.length c3) l3) := hl3.mono (fun k hk => by have := HF2b.out.lt; have := HFB.out; omega)
  have HU3 : Hid (Below w.heap.size w v3) := HU2b.out.trans (But.below hb3 HU2b.out.size (fun a e => by have e' : a.block = fb := e; have := HFB.out; omega))
  have HN5 : Hid (v3.heap[w.heap.size]? = some (.cells #[.int .i64 0, .int .i64 0, .slice none 0 0] 24)) := by show _ = _; rw [hb3.block _ (World.heap_lt HN4.out) (fun a e q => by have q1 : a.block = fb := q; have := HFB.out; omega)]; exact HN4.out
  clear hf3 hm3 hs3 hb3 hl3 HF2b HM2 HU2b HN4 HCL
  go_wp2_with fail
  refine (end_cd fb _ L3 f3 v3 HF3.out n1 n2 p3 l3.length c3).mono ?_
  rintro e v7 ⟨he, hb7⟩
  have HU7 := Lib.hid (HU3.out.trans (hb7.mono HU3.out.size))
  have hn9 : v7.heap[w.heap.size]? = some (.cells #[.int .i64 0, .int .i64 0, .slice none 0 0] 24) := by rw [hb7.block _ (World.heap_lt HN5.out)]; exact HN5.out
  have HL7 : Hid (OpsA (fun k => w.heap.size < k ∧ k ≠ fb) v7 (.slice p3 l3.length c3) l3) := HL3.out.keep (Kp.below hb7)
  have HOP := Lib.hid (cd_fields HS0.out HG0.out HS1.out HS2.out HS3.out)
  clear hb7 HF3 HU3 HN5 HL3 HG0 HS1 HS2 HS3
  rcases he with ⟨hok, rfl⟩ | ⟨hok, rfl⟩
  · obtain ⟨e1, e2⟩ := HOP.out.1 hok
    have HR : Hid (Fa.Rdg Fa.cdS Cdd.Ok s ⟨n1, n2, l3⟩ true) := ⟨fun _ => ⟨e1, e2⟩, fun e => by cases e⟩
    obtain ⟨⟨q0, q1, q2⟩, ⟨g0, g1, g2⟩, hfin⟩ := cd_store hn9 n1 n2 p3 l3.length c3
    have HLD := Lib.hid (load_cd _ _ n1 n2 p3 l3.length c3 hfin)
    have hbut := cd_but (w := v7) (B := w.heap.size) n1 n2 p3 l3.length c3
    have HBF := Lib.hid (HU7.out.trans (But.below hbut HU7.out.size (fun a e => by have e' : a.block = w.heap.size := e; omega)))
    have HLF := Lib.hid ((HL7.out.keep (Kp.but hbut (fun a ha e => by have e' : a.block = w.heap.size := e; have := ha.1; omega))).mono (B := fun k => w.heap.size ≤ k) (fun k hk => Nat.le_of_lt hk.1))
    clear e1 e2 hok hn9 hfin hbut HU7 HL7 HOP
    go_wp2_with fail
    exact bodyPost_ret (results_cell2 rfl _ _ _ ⟨w.heap.size, 0, none⟩ _ rfl HLD.out) rfl ⟨⟨⟨n1, n2, l3⟩, p3, c3, true, rfl, HLF.out, HR.out, fun e => by cases e⟩, HBF.out⟩
  · have HR : Hid (Fa.Rdg Fa.cdS Cdd.Ok s cdd0 false) := ⟨fun e => (by cases e), fun _ => HOP.out.2 hok⟩
    obtain ⟨⟨q0, q1, q2⟩, ⟨g0, g1, g2⟩, hfin⟩ := cd_store hn9 0 0 none 0 0
    have HLD := Lib.hid (load_cd _ _ 0 0 none 0 0 hfin)
    have hbut := cd_but (w := v7) (B := w.heap.size) 0 0 none 0 0
    have HBF := Lib.hid (HU7.out.trans (But.below hbut HU7.out.size (fun a e => by have e' : a.block = w.heap.size := e; omega)))
    clear hok hn9 hfin hbut HU7 HL7 HOP
    go_wp2_with fail
    exact bodyPost_ret (results_cell2 rfl _ _ _ ⟨w.heap.size, 0, none⟩ _ rfl HLD.out) rfl ⟨⟨cdd0, none, 0, false, rfl, OpsA.isNil _ _, HR.out, fun _ => rfl⟩, HBF.out⟩
end Go.Proofs.YthikdkeanndidaaDoor
