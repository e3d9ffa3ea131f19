/-
  CONTRACT: the reference's reader: a type.
-/
import Derived.Test.YtgcaeimlmkkeoaaGreatZR2
set_option linter.unusedSimpArgs false
set_option linter.unusedVariables false
namespace Go.Proofs.YtgcaeimlmkkeoaaGreat
open Go Go.RowKit
theorem RrAt.few {r : Rdr} {σ : Except Nat Nat} {s : Bool} {w : World} (h : RrAt r σ s w) : r.L.length ≤ 20001 := by
 obtain ⟨a, bad, h⟩ := h.in2
 exact h.few
/-- how much is left: nothing behind a fault -/
def roomOf (r : Rdr) (w : World) : Nat := match w.cell? ⟨r.b, 1, none⟩, w.cell? ⟨r.b, 2, none⟩ with
 | some (.int _ a), some (.int _ b) => if b < 0 then r.L.length + 1 - a.toNat else 0
 | _, _ => 0
def room (r : Rdr) : Except Nat Nat → Nat
 | .ok i => r.L.length + 1 - i
 | .error _ => 0
theorem roomOf_eq {r : Rdr} {σ : Except Nat Nat} {s : Bool} {w : World} (h : RrAt r σ s w) : roomOf r w = room r σ := by
 cases σ with
 | ok i =>
  have h' : RrIn r i (-1) s w := h
  unfold roomOf room
  rw [h'.c.2.1, h'.c.2.2.1]
  simp
 | error k =>
  obtain ⟨_, a, h'⟩ := h
  unfold roomOf room
  rw [h'.c.2.1, h'.c.2.2.1]
  simp
  omega
theorem RrAt.lt {r : Rdr} {i : Nat} {s : Bool} {w : World} (h : RrAt r (.ok i) s w) : i < r.L.length := by
 have h' : RrIn r i (-1) s w := h
 exact h'.lt
theorem took_true {r : Rdr} {sg : ByteArray} {σ : Except Nat Nat} (hg : Got (tookM r sg) σ true) (hz : ∀ k, σ = .error k → true = false) : ∃ i, σ = .ok i ∧ after (tookM r sg) σ = .ok (i + 1) := by
 cases σ with
 | error k => have := hz k rfl; cases this
 | ok i =>
  refine ⟨i, rfl, ?_⟩
  by_cases hm : isMark r i sg = true
  ·exact after_ok (x := true) (by unfold tookM; rw [if_pos hm])
  ·have hp : tookM r sg i = .ok (false, i) := by unfold tookM; rw [if_neg hm]
   have := hg i false i rfl hp
   cases this
theorem Up.after {α : Type} {p : PM α} (h : Up p) {i j : Nat} (e : Proofs.YtgcaeimlmkkeoaaGreat.after p (.ok i) = .ok j) : i ≤ j := by
 unfold Proofs.YtgcaeimlmkkeoaaGreat.after at e
 cases hp : p i with
 | error k => simp only [hp] at e; cases e
 | ok z =>
  obtain ⟨x, m⟩ := z
  simp only [hp, Except.ok.injEq] at e
  subst e
  exact h i x m hp
theorem deep_over {lv : Int} (h : 60 < lv) (σ : Except Nat Nat) : after (deepM lv) σ = .error (badOf σ) := by
 unfold deepM after
 rw [if_pos h]
 cases σ <;> rfl
/-- nodes with a mark between them, and what is read behind them -/
def manyK (r : Rdr) (sg : ByteArray) (part : PM Tree) (K : List Tree → PM Tree) : Nat → List Tree → PM Tree
 | 0, _ => failM
 | f + 1, ts => bindM part fun t => bindM (tookM r sg) fun b => match b with
  | true => manyK r sg part K f (ts ++ [t])
  | false => K (ts ++ [t])
/-- behind one of them -/
def markK (r : Rdr) (sg : ByteArray) (part : PM Tree) (K : List Tree → PM Tree) (f : Nat) (ts : List Tree) : PM Tree := bindM (tookM r sg) fun b => match b with
 | true => manyK r sg part K f ts
 | false => K ts
theorem manyK_eq (r : Rdr) (sg : ByteArray) (part : PM Tree) (K : List Tree → PM Tree) : ∀ f ts, manyK r sg part K f ts = bindM (manyM r sg part f ts) K
 | 0, ts => rfl
 | f + 1, ts => by
  funext i
  unfold manyK manyM bindM
  cases part i with
  | error k => rfl
  | ok z =>
   obtain ⟨t, j⟩ := z
   dsimp only
   cases tookM r sg j with
   | error k => rfl
   | ok y =>
    obtain ⟨b, m⟩ := y
    cases b
    ·rfl
    ·exact congrFun (manyK_eq r sg part K f (ts ++ [t])) m
/-- what follows a type's name -/
def typArgsR (r : Rdr) (sub : PM Tree) (a : Int) (nm : ByteArray) : PM Tree := bindM (tookM r ⟨#[60]⟩) fun b => match b with
 | true => manyK r ⟨#[44]⟩ sub (fun ts => bindM (needM r ⟨#[62]⟩) fun _ => ndM 15 nm a ts) (r.L.length + 1) []
 | false => ndM 15 nm a []
def typNameR (r : Rdr) (sub : PM Tree) (a : Int) : PM Tree := bindM (nameM r) fun nm => typArgsR r sub a nm
def typSelfR (r : Rdr) (s : Bool) (sub : PM Tree) (a : Int) : PM Tree := match s with
 | true => bindM (tookM r selfB) fun b => match b with
  | true => ndM 15 selfB a []
  | false => typNameR r sub a
 | false => typNameR r sub a
def typR1 (r : Rdr) (s : Bool) (sub : PM Tree) (lv : Int) : PM Tree := bindM (deepM lv) fun _ => bindM (hereM r) fun a => wordsR r (fun w => ndM 15 w a []) (typSelfR r s sub a) W3
theorem W3_known : ∀ v ∈ W3, v.size ≠ 0 ∧ v.toList ∈ knownL := by
 intro v hv
 simp only [W3, List.mem_cons, List.not_mem_nil, or_false] at hv
 rcases hv with rfl | rfl | rfl <;> exact ⟨by decide, known_of (by decide)⟩
theorem self_known : selfB.toList ∈ knownL := known_of (by decide)
set_option maxRecDepth 100000 in
set_option maxHeartbeats 4000000 in
theorem rTyp_any (r : Rdr) (σ : Except Nat Nat) (s : Bool) (sub : PM Tree) (lv : Int) (hlv : 1 ≤ lv ∧ lv ≤ 60) (hup : Up sub) (w : World) (h : RrAt r σ s w) (hE : EndAt r) (hK : Known r.L) (hS : ∀ σ1 w1, RrAt r σ1 s w1 → Calls Tryz.prog 41 #[.pointer (some ⟨r.b, 0, none⟩), .int .i64 (lv + 1)] w1 (RrPost r sub σ1 s w1)) :
  Calls Tryz.prog 41 #[.pointer (some ⟨r.b, 0, none⟩), .int .i64 lv] w (RrPost r (typR1 r s sub lv) σ s w) := by
 have HT := Lib.hid (St.start h)
 have HE := Lib.hid hE
 have HK := Lib.hid hK
 have HS0 := Lib.hid hS
 obtain ⟨P, hP⟩ : ∃ P, (typR1 r s sub lv) = P := ⟨_, rfl⟩
 have hd : Due P σ (typR1 r s sub lv) σ := by rw [hP]; exact Due.refl _ _
 rw [hP]
 clear hP
 unfold typR1 at hd
 have HD := Lib.hid hd
 clear h hE hK hd hS
 go_enter Tryz.func41, Tryz.ntmps41
 go_wp2_with fail
 generalize w.alloc (.cells #[.int .i64 0, .string ⟨#[]⟩, .int .i64 0, .slice none 0 0] 40) = w1 at *
 refine (deep_r r _ s lv _ HT.out.rr).mono ?_
 rintro e w2 ⟨rfl, hr, hm⟩
 replace HD := Lib.hid (HD.out.step (Got.unit _ _))
 replace HT := Lib.hid (HT.out.on hr hm)
 clear hr hm
 go_wp2_with fail
 refine (here_r r _ s _ HT.out.rr).mono ?_
 rintro e w3 ⟨a, rfl, hr, hm, hg⟩
 replace HD := Lib.hid (HD.out.step hg)
 replace HT := Lib.hid (HT.out.on hr hm)
 clear hr hm hg
 go_wp2_with fail
 refine (ok_r r _ s _ HT.out.rr).mono ?_
 rintro e w4 ⟨b, rfl, rfl, hb⟩
 rcases hb with ⟨rfl, -⟩ | ⟨rfl, k, hk⟩
 rotate_left
 ·replace HD := Lib.hid (HD.out.at_ hk)
  have hT2 := HT.out
  rw [hk] at hT2
  replace HT := Lib.hid hT2
  clear hk hT2
  have HW := Lib.hid (HT.out.ret (q := ⟨0, ⟨#[]⟩, 0, none, 0, 0⟩) ((IsT.leaf _ _ 0 ⟨#[]⟩ 0)))
  obtain ⟨d0, d1, d2, d3, f0⟩ := HT.out.res.cells
  try unfold ndC
  go_wp2_with fail
  obtain ⟨hcell, hist, hrr, hmv⟩ := HW.out
  exact bodyPost_ret (results_cellT rfl _ _ _ ⟨w.heap.size, 0, none⟩ _ rfl (load_node _ _ ⟨0, ⟨#[]⟩, 0, none, 0, 0⟩ hcell)) rfl (HD.out.postE hist hrr hmv)
 go_wp2_with fail
 obtain ⟨B, hB⟩ : ∃ B, w4.heap.size = B := ⟨_, rfl⟩
 have hbx := boxB w4 (.cells #[.string ⟨#[105, 110, 116]⟩, .string ⟨#[98, 111, 111, 108]⟩, .string ⟨#[117, 110, 105, 116]⟩] 9)
 have htx : TextsAt (w4.alloc (.cells #[.string ⟨#[105, 110, 116]⟩, .string ⟨#[98, 111, 111, 108]⟩, .string ⟨#[117, 110, 105, 116]⟩] 9)) B 0 W3 := by rw [← hB]; exact texts_row _ W3 rfl
 have hT3 := HT.out.on (HT.out.rr.below hbx) (Mv.of_below hbx)
 have hBr : Hid (B ≠ r.b) := by show B ≠ r.b; have := HT.out.rr.rb; omega
 replace HT := Lib.hid hT3
 have HX := Lib.hid htx
 clear hT3 htx hbx
 generalize w4.alloc (.cells #[.string ⟨#[105, 110, 116]⟩, .string ⟨#[98, 111, 111, 108]⟩, .string ⟨#[117, 110, 105, 116]⟩] 9) = w5 at *
 rw [hB]
 clear hB
 obtain ⟨σ3, hσ3⟩ : ∃ σ3, after (hereM r) (after (deepM lv) σ) = σ3 := ⟨_, rfl⟩
 rw [hσ3] at HT HD
 clear hσ3
 go_loopw [7, 20] (fun x v wr => ∃ (j : Nat) (σ4 : Except Nat Nat), j ≤ 3 ∧ v = .int .i64 j ∧ Hid (St r w σ4 s wr) ∧ Hid (Due P σ (wordsR r (fun w => ndM 15 w a []) (typSelfR r s sub a) (W3.drop j)) σ4) ∧ Hid (TextsAt wr B 0 W3)) (fun _ v _ => 3 - (intOf v).toNat)
 case atStart => exact ⟨0, σ3, by omega, rfl, HT.out, HD.out, HX.out⟩
 case round =>
  clear HT HD HX
  obtain ⟨j, σ4, hj, rfl, HT, HD, HX⟩ := hrel
  by_cases hlt : j < 3
  ·have hlt' : j < W3.length := hlt
   have hx := HX.out j hlt'
   have hd : W3.drop j = W3[j] :: W3.drop (j + 1) := List.drop_eq_getElem_cons hlt'
   have hkn := W3_known W3[j] (List.getElem_mem _)
   rw [hd] at HD
   generalize W3[j] = sg at hx hkn HD
   have HKN := Lib.hid hkn
   rw [Nat.zero_add] at hx
   have hji : (j : Int) < 3 := by omega
   clear hd hkn
   go_wp2_with fail
   refine (take_r r _ s sg _ HT.out.rr HE.out HK.out HKN.out.1 HKN.out.2).mono ?_
   rintro e w6 ⟨b, rfl, hr, hm, hg, hz⟩
   replace HD := Lib.hid (HD.out.step hg)
   replace HT := Lib.hid (HT.out.on hr hm)
   replace HX := Lib.hid (HX.out.mvT hm hBr.out)
   clear hr hm hg hx
   cases b
   ·go_wp2_with fail
    go_roundw
    case rel => exact ⟨j + 1, _, by omega, by go_num, HT.out, HD.out, HX.out⟩
    case measure => simp [intOf]; omega
   ·go_wp2_with fail
    refine (leaf_r 15 sg a none 0 0 _ HT.out.rr).mono ?_
    rintro e w7 ⟨rfl, hr, hm⟩
    replace HT := Lib.hid (HT.out.on hr hm)
    clear hr hm
    have HW := Lib.hid (HT.out.ret (q := ⟨15, sg, a, none, 0, 0⟩) (IsT.leaf _ _ _ _ _))
    obtain ⟨d0, d1, d2, d3, f0⟩ := HT.out.res.cells
    try unfold ndC
    go_wp2_with fail
    obtain ⟨hcell, hist, hrr, hmv⟩ := HW.out
    exact bodyPost_ret (results_cellT rfl _ _ _ ⟨w.heap.size, 0, none⟩ _ rfl (load_node _ _ ⟨15, sg, a, none, 0, 0⟩ hcell)) rfl (HD.out.postP hist hrr hmv)
  ·have hj3 : j = 3 := by omega
   subst hj3
   have HD2 : Hid (Due P σ (typSelfR r s sub a) σ4) := HD.out
   clear HD HX
   have c3 := HT.out.rr.self
   cases s
   ·have HD : Hid (Due P σ (typNameR r sub a) σ4) := HD2.out
    clear HD2
    go_wp2_with fail
    refine (name_r r _ false _ HT.out.rr HE.out).mono ?_
    rintro e w7 ⟨nm, rfl, hr, hm, hg⟩
    replace HD := Lib.hid (HD.out.step hg)
    replace HT := Lib.hid (HT.out.on hr hm)
    clear hr hm hg
    go_wp2_with fail
    refine (leaf_r 15 nm a none 0 0 _ HT.out.rr).mono ?_
    rintro e w8 ⟨rfl, hr, hm⟩
    replace HT := Lib.hid (HT.out.on hr hm)
    clear hr hm
    unfold ndC
    go_wp2_with fail
    have HB := Lib.hid (KBox.first 15 nm a HT.out)
    have hbx := boxB w8 (.cells (ndC ⟨15, nm, a, none, 0, 0⟩) 40)
    replace HT := Lib.hid (HT.out.on (HT.out.rr.below hbx) (Mv.of_below hbx))
    clear hbx
    unfold ndC at HB HT
    obtain ⟨g, hg⟩ : ∃ g, w8.heap.size = g := ⟨_, rfl⟩
    rw [hg] at HB ⊢
    generalize w8.alloc (.cells #[.int .i64 15, .string nm, .int .i64 a, .slice none 0 0] 40) = w9 at *
    clear hg
    obtain ⟨q, hq⟩ : ∃ q : Raw, q = ⟨15, nm, a, none, 0, 0⟩ := ⟨_, rfl⟩
    obtain ⟨t, ht⟩ : ∃ t : Tree, t = .mk 15 nm a [] := ⟨_, rfl⟩
    rw [← hq, ← ht] at HB
    have HKT : Hid (t = .mk 15 nm a t.kids) := by show t = _; rw [ht]; rfl
    have HKN : Hid (t.kids = []) := by show t.kids = _; rw [ht]; rfl
    clear hq ht
    refine (take_r r _ false ⟨#[60]⟩ _ HT.out.rr HE.out HK.out (by decide) (known_of (by decide))).mono ?_
    rintro e w10 ⟨b, rfl, hr, hm, hg, hz⟩
    replace HD := Lib.hid (HD.out.step hg)
    replace HT := Lib.hid (HT.out.on hr hm)
    replace HB := Lib.hid (HB.out.on hm)
    clear hr hm hg
    generalize after (tookM r ⟨#[60]⟩) _ = σ6 at HT HD
    cases b
    ·have hkn : t = .mk 15 nm a [] := by have := HKT.out; rw [HKN.out] at this; exact this
     replace HD := Lib.hid (HD.out.to (Q' := pureM t) (by rw [hkn]; rfl))
     clear hkn
     obtain ⟨b0, b1, b2, b3⟩ := HB.out.box.cells
     have HW := Lib.hid (HT.out.ret (q := q) (HB.out.tree))
     obtain ⟨d0, d1, d2, d3, f0⟩ := HT.out.res.cells
     try unfold ndC
     go_wp2_with fail
     obtain ⟨hcell, hist, hrr, hmv⟩ := HW.out
     exact bodyPost_ret (results_cellT rfl _ _ _ ⟨w.heap.size, 0, none⟩ _ rfl (load_node _ _ q hcell)) rfl (HD.out.postP hist hrr hmv)
    ·go_wp2_with fail
     clear hz
     have HF : Hid (t.kids.length + (r.L.length + 1) = r.L.length + 1) := by show _ = _; rw [HKN.out]; simp
     replace HD : Hid (Due P σ (manyK r ⟨#[44]⟩ sub (fun ts => bindM (needM r ⟨#[62]⟩) fun _ => ndM 15 nm a ts) (r.L.length + 1) t.kids) σ6) := by rw [HKN.out]; exact HD
     clear HKN
     have HOG : Hid ((Value.slice q.p q.n q.cap).ownBlock ≠ some g) := fun e => by have := (HB.out.own g e).2.2.1; omega
     have hfew := HT.out.rr.few
     have HO : Hid (∀ b, (Value.slice q.p q.n q.cap).ownBlock = some b → r.b < b ∧ b < w10.heap.size ∧ g < b ∧ w.heap.size ≤ b) := HB.out.own
     have HRW : Hid (r.b < w10.heap.size) := HT.out.rr.rb
     apply wp_region_many 9 (Sx r (Value.slice q.p q.n q.cap).ownBlock 5 7) (InvX r w (Value.slice q.p q.n q.cap).ownBlock w10) (F0x r σ6 false (g + 1) (.slice q.p q.n q.cap) t.kids 5 7)
     case hIS => exact fun i x y hs hi => hi.step i hs (fun b e => (HO.out b e).2.2.2)
     case hk0 => exact F0x.keeps (by have := HB.out.box.new; have := HB.out.box.old; omega) (fun b e => by have := HO.out b e; omega)
     case hm => kernel_rfl
     case hB => kernel_rfl
     case h0 => exact InvX.start HT.out.mv
     case h1 => exact F0x.start HT.out.rr HB.out.nodes
     simp only [List.take_succ_cons, List.take_zero, List.drop_succ_cons, List.drop_zero]
     apply wpMany_cons (t := tvIs (.pointer (some ⟨g, 3, none⟩))) (tvIs_goodS _ _)
     case h1 =>
      intro W hI hl
      unfold oneAt
      go_simp
      exact sx_is (by decide) (by decide)
     intro _
     rw [tvIs_f]
     go_simp
     apply wpMany_cons (t := tvIs (.slice q.p q.n q.cap)) (tvIs_goodS _ _)
     case h1 =>
      intro W hI hl
      obtain ⟨b0, b1, b2, b3⟩ := (hI.box HB.out.box HOG.out).cells
      unfold oneAt
      go_simp
      exact sx_is (by decide) (by decide)
     intro _
     rw [tvIs_f]
     go_simp
     apply wpMany_cons (t := tvIs (.pointer (some ⟨r.b, 0, none⟩))) (tvIs_goodS _ _)
     case h1 =>
      intro W hI hl
      unfold oneAt
      go_simp
      exact sx_is (by decide) (by decide)
     intro _
     rw [tvIs_f]
     go_simp
     apply wpMany_cons (t := tvIs (.int .i64 lv)) (tvIs_goodS _ _)
     case h1 =>
      intro W hI hl
      unfold oneAt
      go_simp
      exact sx_is (by decide) (by decide)
     intro _
     rw [tvIs_f]
     go_simp
     apply wpMany_cons (t := tvIs (.int .i64 (lv + 1))) (tvIs_goodS _ _)
     case h1 =>
      intro W hI hl
      have hw : IntKind.i64.wrap (lv + 1) = lv + 1 := IntWalk.i64_in _ (by omega)
      unfold oneAt
      go_simp
      try rw [hw]
      exact sx_is (by decide) (by decide)
     intro _
     rw [tvIs_f]
     go_simp
     apply wpMany_cons (t := tyCall r w10 (sub) σ6 false) (tyCall_good HRW.out (fun b e => by have := HO.out b e; omega))
     case h1 =>
      intro W hI hl
      have hr : RrAt r σ6 false W := hl.1.1 rfl
      unfold oneAt
      go_simp
      exact sx_call hI (HS0.out _ W hr)
     rintro ⟨q5, t5⟩
     rw [tyCall_f]
     unfold ndC
     go_simp
     apply wpMany_cons (t := tyRow w10 1 (fun l => ∃ t5, l = [t5] ∧ Got sub σ6 t5)) (tyRow_good HRW.out (fun b e => by have := HO.out b e; omega))
     case h1 =>
      intro W hI hl
      have h5 : IsT (fun b => w10.heap.size ≤ b) W q5 t5 ∧ RrAt r (after sub σ6) false W ∧ Got sub σ6 t5 := hl.2 ⟨5, .data⟩ (by simp) rfl
      unfold oneAt
      go_simp
      exact sx_row [q5] [t5] hI (by decide) (by decide) rfl rfl rfl (by decide) (by decide) (fun i a b => match i, a, b with | 0, _, _ => h5.1 | i + 1, c, _ => absurd c (by simp)) (⟨t5, rfl, h5.2.2⟩)
     rintro ⟨g6, l6⟩
     rw [tyRow_f]
     go_simp
     apply wpMany_cons (t := tyList (g + 1) (Value.slice q.p q.n q.cap).ownBlock w10 (fun l => ∃ t5, l = t.kids ++ [t5] ∧ Got sub σ6 t5)) (tyList_good (by have := HB.out.box.new; have := HB.out.box.old; omega))
     case h1 =>
      intro W hI hl
      have hN : Nodes (g + 1) W (.slice q.p q.n q.cap) t.kids := hl.1.2 rfl
      have h6 : IsTs (fun b => w10.heap.size ≤ b) W (.slice (some ⟨g6, 0, none⟩) 1 1) l6 ∧ ∃ t5, l6 = [t5] ∧ Got sub σ6 t5 := hl.2 ⟨6, .data⟩ (by simp) rfl
      exact sx_push rfl (.tmp 48) (.tmp 53) rfl rfl rfl hI (by decide) hN (by have := lt_heap HB.out.box.z; omega) (fun b e => (HO.out b e).2.1) (h6.1) (by have := HF.out; omega) (by obtain ⟨t5, e, hg⟩ := h6.2; exact ⟨t5, by rw [e], hg⟩)
     rintro ⟨v7, l7⟩
     rw [tyList_f]
     go_simp
     apply wpMany_cons (t := tvIs (.pointer (some ⟨g, 3, none⟩))) (tvIs_goodS _ _)
     case h1 =>
      intro W hI hl
      unfold oneAt
      go_simp
      exact sx_is (by decide) (by decide)
     intro _
     rw [tvIs_f]
     go_simp
     apply wpMany_nil (Ts := [])
     intro w11 hI hFa
     have h5 : IsT (fun b => w10.heap.size ≤ b) w11 q5 t5 ∧ RrAt r (after sub σ6) false w11 ∧ Got sub σ6 t5 := hFa 5
     have h7 : Nodes (g + 1) w11 v7 l7 ∧ (∃ t5, l7 = t.kids ++ [t5] ∧ Got sub σ6 t5) ∧ _ := hFa 7
     obtain ⟨h7, ⟨t6, rfl, hg6⟩, -⟩ := h7
     obtain ⟨p7, c7, rfl, -, -⟩ := h7.slice
     obtain ⟨n7, e7⟩ : ∃ n7, (t.kids ++ [t6]).length = n7 := ⟨_, rfl⟩
     rw [e7] at h7 ⊢
     clear e7
     have HBX := Lib.hid (hI.box HB.out.box HOG.out)
     have HB7 := Lib.hid (HB.out.store HBX.out h7)
     replace HD := Lib.hid (HD.out.step hg6)
     replace HT := Lib.hid ((hI.st HT.out h5.2.1 (fun b e => by have := (HO.out b e).2.2.1; have := HB.out.box.new; omega)).poke g 3 (.slice p7 n7 c7) HB.out.box.new)
     have HF7 : Hid ((t.kids ++ [t6]).length + r.L.length = r.L.length + 1) := by have := HF.out; show _ = _; rw [List.length_append]; simp only [List.length_cons, List.length_nil]; omega
     have HK7 : Hid (Tree.mk t.kind t.text t.at_ (t.kids ++ [t6]) = .mk 15 nm a (t.kids ++ [t6])) := by show _ = _; rw [HKT.out]; rfl
     obtain ⟨b0, b1, b2, b3⟩ := HBX.out.cells
     have fz := HBX.out.warm'
     have HSZ := Lib.hid hI.size
     clear hI hFa h5 h7 hg6 HO HRW HOG HB HKT HF hfew
     go_wp2_with fail
     clear b0 b1 b2 b3 fz
     generalize w11.setCell ⟨g, 3, none⟩ (.slice p7 n7 c7) = w12 at *
     generalize after sub σ6 = σ7 at HT HD
     obtain ⟨q8, hq8⟩ : ∃ q8 : Raw, q8 = ⟨q.kind, q.text, q.at_, p7, n7, c7⟩ := ⟨_, rfl⟩
     obtain ⟨t8, ht8⟩ : ∃ t8, t8 = Tree.mk t.kind t.text t.at_ (t.kids ++ [t6]) := ⟨_, rfl⟩
     have hk8 : t8.kids = t.kids ++ [t6] := by rw [ht8]; rfl
     rw [← hq8, ← ht8] at HB7
     rw [← ht8, ← hk8] at HK7
     rw [← hk8] at HF7 HD
     clear hq8 ht8 hk8
     go_loopw [57] (fun x wr => ∃ (f : Nat) (q : Raw) (t : Tree) (σ9 : Except Nat Nat), Hid (St r w σ9 false wr) ∧ Hid (KBox r w g q t wr) ∧ Hid (Due P σ (markK r ⟨#[44]⟩ sub (fun ts => bindM (needM r ⟨#[62]⟩) fun _ => ndM 15 nm a ts) f t.kids) σ9) ∧ Hid (t.kids.length + f = r.L.length + 1) ∧ Hid (t = .mk 15 nm a t.kids) ∧ ∀ i, σ9 = .ok i → r.L.length ≤ f + i) (fun _ wr => roomOf r wr)
     case atStart => exact ⟨r.L.length, q8, t8, σ7, HT.out, HB7.out, HD.out, HF7.out, HK7.out, fun i e => by omega⟩
     case round =>
      clear HT HB7 HD HF7 HK7
      obtain ⟨f, q, t, σ9, HT, HB, HD, HF, HKT, HI0⟩ := hrel
      have hroom := roomOf_eq HT.out.rr
      have HRM := Lib.hid hroom
      clear hroom
      go_wp2_with fail
      have HT0 := HT
      refine (take_r r _ false ⟨#[44]⟩ _ HT.out.rr HE.out HK.out (by decide) (known_of (by decide))).mono ?_
      rintro e w10 ⟨b, rfl, hr, hm, hg, hz⟩
      have HTK := Lib.hid hg
      replace HD := Lib.hid (HD.out.step hg)
      replace HT := Lib.hid (HT.out.on hr hm)
      replace HB := Lib.hid (HB.out.on hm)
      clear hr hm hg
      cases b
      ·go_wp2_with fail
       refine (need_r r _ false ⟨#[62]⟩ _ HT.out.rr HE.out HK.out (by decide) (known_of (by decide))).mono ?_
       rintro e w11 ⟨rfl, hr, hm⟩
       replace HD := Lib.hid (HD.out.step (Got.unit _ _))
       replace HT := Lib.hid (HT.out.on hr hm)
       replace HB := Lib.hid (HB.out.on hm)
       clear hr hm
       obtain ⟨b0, b1, b2, b3⟩ := HB.out.box.cells
       replace HD := Lib.hid (HD.out.to (Q' := pureM t) (by have h := HKT.out; exact congrArg pureM h.symm))
       have HW := Lib.hid (HT.out.ret (q := q) (HB.out.tree))
       obtain ⟨d0, d1, d2, d3, f0⟩ := HT.out.res.cells
       try unfold ndC
       go_wp2_with fail
       obtain ⟨hcell, hist, hrr, hmv⟩ := HW.out
       exact bodyPost_ret (results_cellT rfl _ _ _ ⟨w.heap.size, 0, none⟩ _ rfl (load_node _ _ q hcell)) rfl (HD.out.postP hist hrr hmv)
      ·obtain ⟨i9, hi9, ha9⟩ := took_true HTK.out hz
       have hfi := HI0 i9 hi9
       have hlt := HT0.out.rr
       rw [hi9] at hlt
       have hlt := hlt.lt
       obtain ⟨f', rfl⟩ : ∃ f', f = f' + 1 := ⟨f - 1, by omega⟩
       rw [ha9] at HT HD
       have HRM2 : Hid (roomOf r wr = r.L.length + 1 - i9) := by have := HRM.out; rw [hi9] at this; exact this
       clear HRM HT0 HTK ha9 hz hi9 HI0
       go_wp2_with fail
       have HOG : Hid ((Value.slice q.p q.n q.cap).ownBlock ≠ some g) := fun e => by have := (HB.out.own g e).2.2.1; omega
       have hfew := HT.out.rr.few
       have HO : Hid (∀ b, (Value.slice q.p q.n q.cap).ownBlock = some b → r.b < b ∧ b < w10.heap.size ∧ g < b ∧ w.heap.size ≤ b) := HB.out.own
       have HRW : Hid (r.b < w10.heap.size) := HT.out.rr.rb
       apply wp_region_many 9 (Sx r (Value.slice q.p q.n q.cap).ownBlock 5 7) (InvX r w (Value.slice q.p q.n q.cap).ownBlock w10) (F0x r (.ok (i9 + 1)) false (g + 1) (.slice q.p q.n q.cap) t.kids 5 7)
       case hIS => exact fun i x y hs hi => hi.step i hs (fun b e => (HO.out b e).2.2.2)
       case hk0 => exact F0x.keeps (by have := HB.out.box.new; have := HB.out.box.old; omega) (fun b e => by have := HO.out b e; omega)
       case hm => kernel_rfl
       case hB => kernel_rfl
       case h0 => exact InvX.start HT.out.mv
       case h1 => exact F0x.start HT.out.rr HB.out.nodes
       simp only [List.take_succ_cons, List.take_zero, List.drop_succ_cons, List.drop_zero]
       apply wpMany_cons (t := tvIs (.pointer (some ⟨g, 3, none⟩))) (tvIs_goodS _ _)
       case h1 =>
        intro W hI hl
        unfold oneAt
        go_simp
        exact sx_is (by decide) (by decide)
       intro _
       rw [tvIs_f]
       go_simp
       apply wpMany_cons (t := tvIs (.slice q.p q.n q.cap)) (tvIs_goodS _ _)
       case h1 =>
        intro W hI hl
        obtain ⟨b0, b1, b2, b3⟩ := (hI.box HB.out.box HOG.out).cells
        unfold oneAt
        go_simp
        exact sx_is (by decide) (by decide)
       intro _
       rw [tvIs_f]
       go_simp
       apply wpMany_cons (t := tvIs (.pointer (some ⟨r.b, 0, none⟩))) (tvIs_goodS _ _)
       case h1 =>
        intro W hI hl
        unfold oneAt
        go_simp
        exact sx_is (by decide) (by decide)
       intro _
       rw [tvIs_f]
       go_simp
       apply wpMany_cons (t := tvIs (.int .i64 lv)) (tvIs_goodS _ _)
       case h1 =>
        intro W hI hl
        unfold oneAt
        go_simp
        exact sx_is (by decide) (by decide)
       intro _
       rw [tvIs_f]
       go_simp
       apply wpMany_cons (t := tvIs (.int .i64 (lv + 1))) (tvIs_goodS _ _)
       case h1 =>
        intro W hI hl
        have hw : IntKind.i64.wrap (lv + 1) = lv + 1 := IntWalk.i64_in _ (by omega)
        unfold oneAt
        go_simp
        try rw [hw]
        exact sx_is (by decide) (by decide)
       intro _
       rw [tvIs_f]
       go_simp
       apply wpMany_cons (t := tyCall r w10 (sub) (.ok (i9 + 1)) false) (tyCall_good HRW.out (fun b e => by have := HO.out b e; omega))
       case h1 =>
        intro W hI hl
        have hr : RrAt r (.ok (i9 + 1)) false W := hl.1.1 rfl
        unfold oneAt
        go_simp
        exact sx_call hI (HS0.out _ W hr)
       rintro ⟨q5, t5⟩
       rw [tyCall_f]
       unfold ndC
       go_simp
       apply wpMany_cons (t := tyRow w10 1 (fun l => ∃ t5, l = [t5] ∧ Got sub (.ok (i9 + 1)) t5)) (tyRow_good HRW.out (fun b e => by have := HO.out b e; omega))
       case h1 =>
        intro W hI hl
        have h5 : IsT (fun b => w10.heap.size ≤ b) W q5 t5 ∧ RrAt r (after sub (.ok (i9 + 1))) false W ∧ Got sub (.ok (i9 + 1)) t5 := hl.2 ⟨5, .data⟩ (by simp) rfl
        unfold oneAt
        go_simp
        exact sx_row [q5] [t5] hI (by decide) (by decide) rfl rfl rfl (by decide) (by decide) (fun i a b => match i, a, b with | 0, _, _ => h5.1 | i + 1, c, _ => absurd c (by simp)) (⟨t5, rfl, h5.2.2⟩)
       rintro ⟨g6, l6⟩
       rw [tyRow_f]
       go_simp
       apply wpMany_cons (t := tyList (g + 1) (Value.slice q.p q.n q.cap).ownBlock w10 (fun l => ∃ t5, l = t.kids ++ [t5] ∧ Got sub (.ok (i9 + 1)) t5)) (tyList_good (by have := HB.out.box.new; have := HB.out.box.old; omega))
       case h1 =>
        intro W hI hl
        have hN : Nodes (g + 1) W (.slice q.p q.n q.cap) t.kids := hl.1.2 rfl
        have h6 : IsTs (fun b => w10.heap.size ≤ b) W (.slice (some ⟨g6, 0, none⟩) 1 1) l6 ∧ ∃ t5, l6 = [t5] ∧ Got sub (.ok (i9 + 1)) t5 := hl.2 ⟨6, .data⟩ (by simp) rfl
        exact sx_push rfl (.tmp 59) (.tmp 64) rfl rfl rfl hI (by decide) hN (by have := lt_heap HB.out.box.z; omega) (fun b e => (HO.out b e).2.1) (h6.1) (by have := HF.out; omega) (by obtain ⟨t5, e, hg⟩ := h6.2; exact ⟨t5, by rw [e], hg⟩)
       rintro ⟨v7, l7⟩
       rw [tyList_f]
       go_simp
       apply wpMany_cons (t := tvIs (.pointer (some ⟨g, 3, none⟩))) (tvIs_goodS _ _)
       case h1 =>
        intro W hI hl
        unfold oneAt
        go_simp
        exact sx_is (by decide) (by decide)
       intro _
       rw [tvIs_f]
       go_simp
       apply wpMany_nil (Ts := [])
       intro w11 hI hFa
       have h5 : IsT (fun b => w10.heap.size ≤ b) w11 q5 t5 ∧ RrAt r (after sub (.ok (i9 + 1))) false w11 ∧ Got sub (.ok (i9 + 1)) t5 := hFa 5
       have h7 : Nodes (g + 1) w11 v7 l7 ∧ (∃ t5, l7 = t.kids ++ [t5] ∧ Got sub (.ok (i9 + 1)) t5) ∧ _ := hFa 7
       obtain ⟨h7, ⟨t6, rfl, hg6⟩, -⟩ := h7
       obtain ⟨p7, c7, rfl, -, -⟩ := h7.slice
       obtain ⟨n7, e7⟩ : ∃ n7, (t.kids ++ [t6]).length = n7 := ⟨_, rfl⟩
       rw [e7] at h7 ⊢
       clear e7
       have HBX := Lib.hid (hI.box HB.out.box HOG.out)
       have HB7 := Lib.hid (HB.out.store HBX.out h7)
       replace HD := Lib.hid (HD.out.step hg6)
       replace HT := Lib.hid ((hI.st HT.out h5.2.1 (fun b e => by have := (HO.out b e).2.2.1; have := HB.out.box.new; omega)).poke g 3 (.slice p7 n7 c7) HB.out.box.new)
       have HF7 : Hid ((t.kids ++ [t6]).length + f' = r.L.length + 1) := by have := HF.out; show _ = _; rw [List.length_append]; simp only [List.length_cons, List.length_nil]; omega
       have HK7 : Hid (Tree.mk t.kind t.text t.at_ (t.kids ++ [t6]) = .mk 15 nm a (t.kids ++ [t6])) := by show _ = _; rw [HKT.out]; rfl
       obtain ⟨b0, b1, b2, b3⟩ := HBX.out.cells
       have fz := HBX.out.warm'
       have HSZ := Lib.hid hI.size
       clear hI hFa h5 h7 hg6 HO HRW HOG HB HKT HF hfew
       go_wp2_with fail
       clear b0 b1 b2 b3 fz
       generalize w11.setCell ⟨g, 3, none⟩ (.slice p7 n7 c7) = w12 at *
       have hup9 : ∀ j, after sub (.ok (i9 + 1)) = .ok j → i9 + 1 ≤ j := fun j e => hup.after e
       generalize after sub (.ok (i9 + 1)) = σ7 at HT HD hup9
       have hrm := roomOf_eq HT.out.rr
       go_roundw
       case rel => exact ⟨f', ⟨q.kind, q.text, q.at_, p7, n7, c7⟩, .mk t.kind t.text t.at_ (t.kids ++ [t6]), σ7, HT.out, HB7.out, HD.out, HF7.out, HK7.out, fun i e => by have := hup9 i e; omega⟩
       case measure =>
        rw [hrm, HRM2.out]
        cases σ7 with
        | ok j => have := hup9 j rfl; have := HT.out.rr.lt; simp only [room]; omega
        | error k => simp only [room]; omega
   ·have HD : Hid (Due P σ (bindM (tookM r selfB) fun b => match b with | true => ndM 15 selfB a [] | false => typNameR r sub a) σ4) := HD2.out
    clear HD2
    go_wp2_with fail
    refine (take_r r _ true selfB _ HT.out.rr HE.out HK.out (by decide) self_known).mono ?_
    rintro e w6 ⟨b, rfl, hr, hm, hg, hz⟩
    replace HD := Lib.hid (HD.out.step hg)
    replace HT := Lib.hid (HT.out.on hr hm)
    clear hr hm hg c3
    cases b
    ·go_wp2_with fail
     refine (name_r r _ true _ HT.out.rr HE.out).mono ?_
     rintro e w7 ⟨nm, rfl, hr, hm, hg⟩
     replace HD := Lib.hid (HD.out.step hg)
     replace HT := Lib.hid (HT.out.on hr hm)
     clear hr hm hg
     go_wp2_with fail
     refine (leaf_r 15 nm a none 0 0 _ HT.out.rr).mono ?_
     rintro e w8 ⟨rfl, hr, hm⟩
     replace HT := Lib.hid (HT.out.on hr hm)
     clear hr hm
     unfold ndC
     go_wp2_with fail
     have HB := Lib.hid (KBox.first 15 nm a HT.out)
     have hbx := boxB w8 (.cells (ndC ⟨15, nm, a, none, 0, 0⟩) 40)
     replace HT := Lib.hid (HT.out.on (HT.out.rr.below hbx) (Mv.of_below hbx))
     clear hbx
     unfold ndC at HB HT
     obtain ⟨g, hg⟩ : ∃ g, w8.heap.size = g := ⟨_, rfl⟩
     rw [hg] at HB ⊢
     generalize w8.alloc (.cells #[.int .i64 15, .string nm, .int .i64 a, .slice none 0 0] 40) = w9 at *
     clear hg
     obtain ⟨q, hq⟩ : ∃ q : Raw, q = ⟨15, nm, a, none, 0, 0⟩ := ⟨_, rfl⟩
     obtain ⟨t, ht⟩ : ∃ t : Tree, t = .mk 15 nm a [] := ⟨_, rfl⟩
     rw [← hq, ← ht] at HB
     have HKT : Hid (t = .mk 15 nm a t.kids) := by show t = _; rw [ht]; rfl
     have HKN : Hid (t.kids = []) := by show t.kids = _; rw [ht]; rfl
     clear hq ht
     refine (take_r r _ true ⟨#[60]⟩ _ HT.out.rr HE.out HK.out (by decide) (known_of (by decide))).mono ?_
     rintro e w10 ⟨b, rfl, hr, hm, hg, hz⟩
     replace HD := Lib.hid (HD.out.step hg)
     replace HT := Lib.hid (HT.out.on hr hm)
     replace HB := Lib.hid (HB.out.on hm)
     clear hr hm hg
     generalize after (tookM r ⟨#[60]⟩) _ = σ6 at HT HD
     cases b
     ·have hkn : t = .mk 15 nm a [] := by have := HKT.out; rw [HKN.out] at this; exact this
      replace HD := Lib.hid (HD.out.to (Q' := pureM t) (by rw [hkn]; rfl))
      clear hkn
      obtain ⟨b0, b1, b2, b3⟩ := HB.out.box.cells
      have HW := Lib.hid (HT.out.ret (q := q) (HB.out.tree))
      obtain ⟨d0, d1, d2, d3, f0⟩ := HT.out.res.cells
      try unfold ndC
      go_wp2_with fail
      obtain ⟨hcell, hist, hrr, hmv⟩ := HW.out
      exact bodyPost_ret (results_cellT rfl _ _ _ ⟨w.heap.size, 0, none⟩ _ rfl (load_node _ _ q hcell)) rfl (HD.out.postP hist hrr hmv)
     ·go_wp2_with fail
      clear hz
      have HF : Hid (t.kids.length + (r.L.length + 1) = r.L.length + 1) := by show _ = _; rw [HKN.out]; simp
      replace HD : Hid (Due P σ (manyK r ⟨#[44]⟩ sub (fun ts => bindM (needM r ⟨#[62]⟩) fun _ => ndM 15 nm a ts) (r.L.length + 1) t.kids) σ6) := by rw [HKN.out]; exact HD
      clear HKN
      have HOG : Hid ((Value.slice q.p q.n q.cap).ownBlock ≠ some g) := fun e => by have := (HB.out.own g e).2.2.1; omega
      have hfew := HT.out.rr.few
      have HO : Hid (∀ b, (Value.slice q.p q.n q.cap).ownBlock = some b → r.b < b ∧ b < w10.heap.size ∧ g < b ∧ w.heap.size ≤ b) := HB.out.own
      have HRW : Hid (r.b < w10.heap.size) := HT.out.rr.rb
      apply wp_region_many 9 (Sx r (Value.slice q.p q.n q.cap).ownBlock 5 7) (InvX r w (Value.slice q.p q.n q.cap).ownBlock w10) (F0x r σ6 true (g + 1) (.slice q.p q.n q.cap) t.kids 5 7)
      case hIS => exact fun i x y hs hi => hi.step i hs (fun b e => (HO.out b e).2.2.2)
      case hk0 => exact F0x.keeps (by have := HB.out.box.new; have := HB.out.box.old; omega) (fun b e => by have := HO.out b e; omega)
      case hm => kernel_rfl
      case hB => kernel_rfl
      case h0 => exact InvX.start HT.out.mv
      case h1 => exact F0x.start HT.out.rr HB.out.nodes
      simp only [List.take_succ_cons, List.take_zero, List.drop_succ_cons, List.drop_zero]
      apply wpMany_cons (t := tvIs (.pointer (some ⟨g, 3, none⟩))) (tvIs_goodS _ _)
      case h1 =>
       intro W hI hl
       unfold oneAt
       go_simp
       exact sx_is (by decide) (by decide)
      intro _
      rw [tvIs_f]
      go_simp
      apply wpMany_cons (t := tvIs (.slice q.p q.n q.cap)) (tvIs_goodS _ _)
      case h1 =>
       intro W hI hl
       obtain ⟨b0, b1, b2, b3⟩ := (hI.box HB.out.box HOG.out).cells
       unfold oneAt
       go_simp
       exact sx_is (by decide) (by decide)
      intro _
      rw [tvIs_f]
      go_simp
      apply wpMany_cons (t := tvIs (.pointer (some ⟨r.b, 0, none⟩))) (tvIs_goodS _ _)
      case h1 =>
       intro W hI hl
       unfold oneAt
       go_simp
       exact sx_is (by decide) (by decide)
      intro _
      rw [tvIs_f]
      go_simp
      apply wpMany_cons (t := tvIs (.int .i64 lv)) (tvIs_goodS _ _)
      case h1 =>
       intro W hI hl
       unfold oneAt
       go_simp
       exact sx_is (by decide) (by decide)
      intro _
      rw [tvIs_f]
      go_simp
      apply wpMany_cons (t := tvIs (.int .i64 (lv + 1))) (tvIs_goodS _ _)
      case h1 =>
       intro W hI hl
       have hw : IntKind.i64.wrap (lv + 1) = lv + 1 := IntWalk.i64_in _ (by omega)
       unfold oneAt
       go_simp
       try rw [hw]
       exact sx_is (by decide) (by decide)
      intro _
      rw [tvIs_f]
      go_simp
      apply wpMany_cons (t := tyCall r w10 (sub) σ6 true) (tyCall_good HRW.out (fun b e => by have := HO.out b e; omega))
      case h1 =>
       intro W hI hl
       have hr : RrAt r σ6 true W := hl.1.1 rfl
       unfold oneAt
       go_simp
       exact sx_call hI (HS0.out _ W hr)
      rintro ⟨q5, t5⟩
      rw [tyCall_f]
      unfold ndC
      go_simp
      apply wpMany_cons (t := tyRow w10 1 (fun l => ∃ t5, l = [t5] ∧ Got sub σ6 t5)) (tyRow_good HRW.out (fun b e => by have := HO.out b e; omega))
      case h1 =>
       intro W hI hl
       have h5 : IsT (fun b => w10.heap.size ≤ b) W q5 t5 ∧ RrAt r (after sub σ6) true W ∧ Got sub σ6 t5 := hl.2 ⟨5, .data⟩ (by simp) rfl
       unfold oneAt
       go_simp
       exact sx_row [q5] [t5] hI (by decide) (by decide) rfl rfl rfl (by decide) (by decide) (fun i a b => match i, a, b with | 0, _, _ => h5.1 | i + 1, c, _ => absurd c (by simp)) (⟨t5, rfl, h5.2.2⟩)
      rintro ⟨g6, l6⟩
      rw [tyRow_f]
      go_simp
      apply wpMany_cons (t := tyList (g + 1) (Value.slice q.p q.n q.cap).ownBlock w10 (fun l => ∃ t5, l = t.kids ++ [t5] ∧ Got sub σ6 t5)) (tyList_good (by have := HB.out.box.new; have := HB.out.box.old; omega))
      case h1 =>
       intro W hI hl
       have hN : Nodes (g + 1) W (.slice q.p q.n q.cap) t.kids := hl.1.2 rfl
       have h6 : IsTs (fun b => w10.heap.size ≤ b) W (.slice (some ⟨g6, 0, none⟩) 1 1) l6 ∧ ∃ t5, l6 = [t5] ∧ Got sub σ6 t5 := hl.2 ⟨6, .data⟩ (by simp) rfl
       exact sx_push rfl (.tmp 48) (.tmp 53) rfl rfl rfl hI (by decide) hN (by have := lt_heap HB.out.box.z; omega) (fun b e => (HO.out b e).2.1) (h6.1) (by have := HF.out; omega) (by obtain ⟨t5, e, hg⟩ := h6.2; exact ⟨t5, by rw [e], hg⟩)
      rintro ⟨v7, l7⟩
      rw [tyList_f]
      go_simp
      apply wpMany_cons (t := tvIs (.pointer (some ⟨g, 3, none⟩))) (tvIs_goodS _ _)
      case h1 =>
       intro W hI hl
       unfold oneAt
       go_simp
       exact sx_is (by decide) (by decide)
      intro _
      rw [tvIs_f]
      go_simp
      apply wpMany_nil (Ts := [])
      intro w11 hI hFa
      have h5 : IsT (fun b => w10.heap.size ≤ b) w11 q5 t5 ∧ RrAt r (after sub σ6) true w11 ∧ Got sub σ6 t5 := hFa 5
      have h7 : Nodes (g + 1) w11 v7 l7 ∧ (∃ t5, l7 = t.kids ++ [t5] ∧ Got sub σ6 t5) ∧ _ := hFa 7
      obtain ⟨h7, ⟨t6, rfl, hg6⟩, -⟩ := h7
      obtain ⟨p7, c7, rfl, -, -⟩ := h7.slice
      obtain ⟨n7, e7⟩ : ∃ n7, (t.kids ++ [t6]).length = n7 := ⟨_, rfl⟩
      rw [e7] at h7 ⊢
      clear e7
      have HBX := Lib.hid (hI.box HB.out.box HOG.out)
      have HB7 := Lib.hid (HB.out.store HBX.out h7)
      replace HD := Lib.hid (HD.out.step hg6)
      replace HT := Lib.hid ((hI.st HT.out h5.2.1 (fun b e => by have := (HO.out b e).2.2.1; have := HB.out.box.new; omega)).poke g 3 (.slice p7 n7 c7) HB.out.box.new)
      have HF7 : Hid ((t.kids ++ [t6]).length + r.L.length = r.L.length + 1) := by have := HF.out; show _ = _; rw [List.length_append]; simp only [List.length_cons, List.length_nil]; omega
      have HK7 : Hid (Tree.mk t.kind t.text t.at_ (t.kids ++ [t6]) = .mk 15 nm a (t.kids ++ [t6])) := by show _ = _; rw [HKT.out]; rfl
      obtain ⟨b0, b1, b2, b3⟩ := HBX.out.cells
      have fz := HBX.out.warm'
      have HSZ := Lib.hid hI.size
      clear hI hFa h5 h7 hg6 HO HRW HOG HB HKT HF hfew
      go_wp2_with fail
      clear b0 b1 b2 b3 fz
      generalize w11.setCell ⟨g, 3, none⟩ (.slice p7 n7 c7) = w12 at *
      generalize after sub σ6 = σ7 at HT HD
      obtain ⟨q8, hq8⟩ : ∃ q8 : Raw, q8 = ⟨q.kind, q.text, q.at_, p7, n7, c7⟩ := ⟨_, rfl⟩
      obtain ⟨t8, ht8⟩ : ∃ t8, t8 = Tree.mk t.kind t.text t.at_ (t.kids ++ [t6]) := ⟨_, rfl⟩
      have hk8 : t8.kids = t.kids ++ [t6] := by rw [ht8]; rfl
      rw [← hq8, ← ht8] at HB7
      rw [← ht8, ← hk8] at HK7
      rw [← hk8] at HF7 HD
      clear hq8 ht8 hk8
      go_loopw [57] (fun x wr => ∃ (f : Nat) (q : Raw) (t : Tree) (σ9 : Except Nat Nat), Hid (St r w σ9 true wr) ∧ Hid (KBox r w g q t wr) ∧ Hid (Due P σ (markK r ⟨#[44]⟩ sub (fun ts => bindM (needM r ⟨#[62]⟩) fun _ => ndM 15 nm a ts) f t.kids) σ9) ∧ Hid (t.kids.length + f = r.L.length + 1) ∧ Hid (t = .mk 15 nm a t.kids) ∧ ∀ i, σ9 = .ok i → r.L.length ≤ f + i) (fun _ wr => roomOf r wr)
      case atStart => exact ⟨r.L.length, q8, t8, σ7, HT.out, HB7.out, HD.out, HF7.out, HK7.out, fun i e => by omega⟩
      case round =>
       clear HT HB7 HD HF7 HK7
       obtain ⟨f, q, t, σ9, HT, HB, HD, HF, HKT, HI0⟩ := hrel
       have hroom := roomOf_eq HT.out.rr
       have HRM := Lib.hid hroom
       clear hroom
       go_wp2_with fail
       have HT0 := HT
       refine (take_r r _ true ⟨#[44]⟩ _ HT.out.rr HE.out HK.out (by decide) (known_of (by decide))).mono ?_
       rintro e w10 ⟨b, rfl, hr, hm, hg, hz⟩
       have HTK := Lib.hid hg
       replace HD := Lib.hid (HD.out.step hg)
       replace HT := Lib.hid (HT.out.on hr hm)
       replace HB := Lib.hid (HB.out.on hm)
       clear hr hm hg
       cases b
       ·go_wp2_with fail
        refine (need_r r _ true ⟨#[62]⟩ _ HT.out.rr HE.out HK.out (by decide) (known_of (by decide))).mono ?_
        rintro e w11 ⟨rfl, hr, hm⟩
        replace HD := Lib.hid (HD.out.step (Got.unit _ _))
        replace HT := Lib.hid (HT.out.on hr hm)
        replace HB := Lib.hid (HB.out.on hm)
        clear hr hm
        obtain ⟨b0, b1, b2, b3⟩ := HB.out.box.cells
        replace HD := Lib.hid (HD.out.to (Q' := pureM t) (by have h := HKT.out; exact congrArg pureM h.symm))
        have HW := Lib.hid (HT.out.ret (q := q) (HB.out.tree))
        obtain ⟨d0, d1, d2, d3, f0⟩ := HT.out.res.cells
        try unfold ndC
        go_wp2_with fail
        obtain ⟨hcell, hist, hrr, hmv⟩ := HW.out
        exact bodyPost_ret (results_cellT rfl _ _ _ ⟨w.heap.size, 0, none⟩ _ rfl (load_node _ _ q hcell)) rfl (HD.out.postP hist hrr hmv)
       ·obtain ⟨i9, hi9, ha9⟩ := took_true HTK.out hz
        have hfi := HI0 i9 hi9
        have hlt := HT0.out.rr
        rw [hi9] at hlt
        have hlt := hlt.lt
        obtain ⟨f', rfl⟩ : ∃ f', f = f' + 1 := ⟨f - 1, by omega⟩
        rw [ha9] at HT HD
        have HRM2 : Hid (roomOf r wr = r.L.length + 1 - i9) := by have := HRM.out; rw [hi9] at this; exact this
        clear HRM HT0 HTK ha9 hz hi9 HI0
        go_wp2_with fail
        have HOG : Hid ((Value.slice q.p q.n q.cap).ownBlock ≠ some g) := fun e => by have := (HB.out.own g e).2.2.1; omega
        have hfew := HT.out.rr.few
        have HO : Hid (∀ b, (Value.slice q.p q.n q.cap).ownBlock = some b → r.b < b ∧ b < w10.heap.size ∧ g < b ∧ w.heap.size ≤ b) := HB.out.own
        have HRW : Hid (r.b < w10.heap.size) := HT.out.rr.rb
        apply wp_region_many 9 (Sx r (Value.slice q.p q.n q.cap).ownBlock 5 7) (InvX r w (Value.slice q.p q.n q.cap).ownBlock w10) (F0x r (.ok (i9 + 1)) true (g + 1) (.slice q.p q.n q.cap) t.kids 5 7)
        case hIS => exact fun i x y hs hi => hi.step i hs (fun b e => (HO.out b e).2.2.2)
        case hk0 => exact F0x.keeps (by have := HB.out.box.new; have := HB.out.box.old; omega) (fun b e => by have := HO.out b e; omega)
        case hm => kernel_rfl
        case hB => kernel_rfl
        case h0 => exact InvX.start HT.out.mv
        case h1 => exact F0x.start HT.out.rr HB.out.nodes
        simp only [List.take_succ_cons, List.take_zero, List.drop_succ_cons, List.drop_zero]
        apply wpMany_cons (t := tvIs (.pointer (some ⟨g, 3, none⟩))) (tvIs_goodS _ _)
        case h1 =>
         intro W hI hl
         unfold oneAt
         go_simp
         exact sx_is (by decide) (by decide)
        intro _
        rw [tvIs_f]
        go_simp
        apply wpMany_cons (t := tvIs (.slice q.p q.n q.cap)) (tvIs_goodS _ _)
        case h1 =>
         intro W hI hl
         obtain ⟨b0, b1, b2, b3⟩ := (hI.box HB.out.box HOG.out).cells
         unfold oneAt
         go_simp
         exact sx_is (by decide) (by decide)
        intro _
        rw [tvIs_f]
        go_simp
        apply wpMany_cons (t := tvIs (.pointer (some ⟨r.b, 0, none⟩))) (tvIs_goodS _ _)
        case h1 =>
         intro W hI hl
         unfold oneAt
         go_simp
         exact sx_is (by decide) (by decide)
        intro _
        rw [tvIs_f]
        go_simp
        apply wpMany_cons (t := tvIs (.int .i64 lv)) (tvIs_goodS _ _)
        case h1 =>
         intro W hI hl
         unfold oneAt
         go_simp
         exact sx_is (by decide) (by decide)
        intro _
        rw [tvIs_f]
        go_simp
        apply wpMany_cons (t := tvIs (.int .i64 (lv + 1))) (tvIs_goodS _ _)
        case h1 =>
         intro W hI hl
         have hw : IntKind.i64.wrap (lv + 1) = lv + 1 := IntWalk.i64_in _ (by omega)
         unfold oneAt
         go_simp
         try rw [hw]
         exact sx_is (by decide) (by decide)
        intro _
        rw [tvIs_f]
        go_simp
        apply wpMany_cons (t := tyCall r w10 (sub) (.ok (i9 + 1)) true) (tyCall_good HRW.out (fun b e => by have := HO.out b e; omega))
        case h1 =>
         intro W hI hl
         have hr : RrAt r (.ok (i9 + 1)) true W := hl.1.1 rfl
         unfold oneAt
         go_simp
         exact sx_call hI (HS0.out _ W hr)
        rintro ⟨q5, t5⟩
        rw [tyCall_f]
        unfold ndC
        go_simp
        apply wpMany_cons (t := tyRow w10 1 (fun l => ∃ t5, l = [t5] ∧ Got sub (.ok (i9 + 1)) t5)) (tyRow_good HRW.out (fun b e => by have := HO.out b e; omega))
        case h1 =>
         intro W hI hl
         have h5 : IsT (fun b => w10.heap.size ≤ b) W q5 t5 ∧ RrAt r (after sub (.ok (i9 + 1))) true W ∧ Got sub (.ok (i9 + 1)) t5 := hl.2 ⟨5, .data⟩ (by simp) rfl
         unfold oneAt
         go_simp
         exact sx_row [q5] [t5] hI (by decide) (by decide) rfl rfl rfl (by decide) (by decide) (fun i a b => match i, a, b with | 0, _, _ => h5.1 | i + 1, c, _ => absurd c (by simp)) (⟨t5, rfl, h5.2.2⟩)
        rintro ⟨g6, l6⟩
        rw [tyRow_f]
        go_simp
        apply wpMany_cons (t := tyList (g + 1) (Value.slice q.p q.n q.cap).ownBlock w10 (fun l => ∃ t5, l = t.kids ++ [t5] ∧ Got sub (.ok (i9 + 1)) t5)) (tyList_good (by have := HB.out.box.new; have := HB.out.box.old; omega))
        case h1 =>
         intro W hI hl
         have hN : Nodes (g + 1) W (.slice q.p q.n q.cap) t.kids := hl.1.2 rfl
         have h6 : IsTs (fun b => w10.heap.size ≤ b) W (.slice (some ⟨g6, 0, none⟩) 1 1) l6 ∧ ∃ t5, l6 = [t5] ∧ Got sub (.ok (i9 + 1)) t5 := hl.2 ⟨6, .data⟩ (by simp) rfl
         exact sx_push rfl (.tmp 59) (.tmp 64) rfl rfl rfl hI (by decide) hN (by have := lt_heap HB.out.box.z; omega) (fun b e => (HO.out b e).2.1) (h6.1) (by have := HF.out; omega) (by obtain ⟨t5, e, hg⟩ := h6.2; exact ⟨t5, by rw [e], hg⟩)
        rintro ⟨v7, l7⟩
        rw [tyList_f]
        go_simp
        apply wpMany_cons (t := tvIs (.pointer (some ⟨g, 3, none⟩))) (tvIs_goodS _ _)
        case h1 =>
         intro W hI hl
         unfold oneAt
         go_simp
         exact sx_is (by decide) (by decide)
        intro _
        rw [tvIs_f]
        go_simp
        apply wpMany_nil (Ts := [])
        intro w11 hI hFa
        have h5 : IsT (fun b => w10.heap.size ≤ b) w11 q5 t5 ∧ RrAt r (after sub (.ok (i9 + 1))) true w11 ∧ Got sub (.ok (i9 + 1)) t5 := hFa 5
        have h7 : Nodes (g + 1) w11 v7 l7 ∧ (∃ t5, l7 = t.kids ++ [t5] ∧ Got sub (.ok (i9 + 1)) t5) ∧ _ := hFa 7
        obtain ⟨h7, ⟨t6, rfl, hg6⟩, -⟩ := h7
        obtain ⟨p7, c7, rfl, -, -⟩ := h7.slice
        obtain ⟨n7, e7⟩ : ∃ n7, (t.kids ++ [t6]).length = n7 := ⟨_, rfl⟩
        rw [e7] at h7 ⊢
        clear e7
        have HBX := Lib.hid (hI.box HB.out.box HOG.out)
        have HB7 := Lib.hid (HB.out.store HBX.out h7)
        replace HD := Lib.hid (HD.out.step hg6)
        replace HT := Lib.hid ((hI.st HT.out h5.2.1 (fun b e => by have := (HO.out b e).2.2.1; have := HB.out.box.new; omega)).poke g 3 (.slice p7 n7 c7) HB.out.box.new)
        have HF7 : Hid ((t.kids ++ [t6]).length + f' = r.L.length + 1) := by have := HF.out; show _ = _; rw [List.length_append]; simp only [List.length_cons, List.length_nil]; omega
        have HK7 : Hid (Tree.mk t.kind t.text t.at_ (t.kids ++ [t6]) = .mk 15 nm a (t.kids ++ [t6])) := by show _ = _; rw [HKT.out]; rfl
        obtain ⟨b0, b1, b2, b3⟩ := HBX.out.cells
        have fz := HBX.out.warm'
        have HSZ := Lib.hid hI.size
        clear hI hFa h5 h7 hg6 HO HRW HOG HB HKT HF hfew
        go_wp2_with fail
        clear b0 b1 b2 b3 fz
        generalize w11.setCell ⟨g, 3, none⟩ (.slice p7 n7 c7) = w12 at *
        have hup9 : ∀ j, after sub (.ok (i9 + 1)) = .ok j → i9 + 1 ≤ j := fun j e => hup.after e
        generalize after sub (.ok (i9 + 1)) = σ7 at HT HD hup9
        have hrm := roomOf_eq HT.out.rr
        go_roundw
        case rel => exact ⟨f', ⟨q.kind, q.text, q.at_, p7, n7, c7⟩, .mk t.kind t.text t.at_ (t.kids ++ [t6]), σ7, HT.out, HB7.out, HD.out, HF7.out, HK7.out, fun i e => by have := hup9 i e; omega⟩
        case measure =>
         rw [hrm, HRM2.out]
         cases σ7 with
         | ok j => have := hup9 j rfl; have := HT.out.rr.lt; simp only [room]; omega
         | error k => simp only [room]; omega
    ·go_wp2_with fail
     refine (leaf_r 15 selfB a none 0 0 _ HT.out.rr).mono ?_
     rintro e w7 ⟨rfl, hr, hm⟩
     replace HT := Lib.hid (HT.out.on hr hm)
     clear hr hm
     have HW := Lib.hid (HT.out.ret (q := ⟨15, selfB, a, none, 0, 0⟩) (IsT.leaf _ _ _ _ _))
     obtain ⟨d0, d1, d2, d3, f0⟩ := HT.out.res.cells
     try unfold ndC
     go_wp2_with fail
     obtain ⟨hcell, hist, hrr, hmv⟩ := HW.out
     exact bodyPost_ret (results_cellT rfl _ _ _ ⟨w.heap.size, 0, none⟩ _ rfl (load_node _ _ ⟨15, selfB, a, none, 0, 0⟩ hcell)) rfl (HD.out.postP hist hrr hmv)
end Go.Proofs.YtgcaeimlmkkeoaaGreat
namespace Go.Proofs.YtgcaeimlmkkeoaaGreat
open Go Go.RowKit
theorem at_ok {α β : Type} {p : PM α} {f : α → PM β} {i j : Nat} {x : α} (h : p i = .ok (x, j)) : bindM p f i = f x j := by unfold bindM; rw [h]
theorem at_err {α β : Type} {p : PM α} {f : α → PM β} {i k : Nat} (h : p i = .error k) : bindM p f i = .error k := by unfold bindM; rw [h]
theorem tk_yes {r : Rdr} {sg : ByteArray} {i : Nat} (h : isMark r i sg = true) : tookM r sg i = .ok (true, i + 1) := by unfold tookM; rw [if_pos h]
theorem tk_no {r : Rdr} {sg : ByteArray} {i : Nat} (h : ¬ isMark r i sg = true) : tookM r sg i = .ok (false, i) := by unfold tookM; rw [if_neg h]
theorem nd_yes {r : Rdr} {sg : ByteArray} {i : Nat} (h : isMark r i sg = true) : needM r sg i = .ok ((), i + 1) := by unfold needM; rw [if_pos h]
theorem nd_no {r : Rdr} {sg : ByteArray} {i : Nat} (h : ¬ isMark r i sg = true) : needM r sg i = .error i := by unfold needM; rw [if_neg h]
theorem nm_yes {r : Rdr} {i : Nat} (h : (r.L.getD i tok0).kind = 1) : nameM r i = .ok ((r.L.getD i tok0).text, i + 1) := by unfold nameM; rw [if_pos h]
theorem nm_no {r : Rdr} {i : Nat} (h : ¬ (r.L.getD i tok0).kind = 1) : nameM r i = .error i := by unfold nameM; rw [if_neg h]
theorem typName_eq (r : Rdr) (sub : PM Tree) (i : Nat) : typNameR r sub (r.L.getD i tok0).at_ i = typTail r sub i := by
 unfold typNameR typTail
 by_cases hk : (r.L.getD i tok0).kind = 1
 ·rw [at_ok (nm_yes hk), if_pos hk]
  unfold typArgsR
  by_cases hm : isMark r (i + 1) ⟨#[60]⟩ = true
  ·rw [at_ok (tk_yes hm), if_pos hm]
   dsimp only
   rw [manyK_eq, manyM_nil]
   cases hl : listP r ⟨#[44]⟩ sub (r.L.length + 1) (i + 2) with
   | error k => rw [at_err hl]
   | ok z =>
    obtain ⟨ts, j⟩ := z
    rw [at_ok hl]
    dsimp only
    by_cases hg : isMark r j ⟨#[62]⟩ = true
    ·rw [at_ok (nd_yes hg), if_pos hg]; rfl
    ·rw [at_err (nd_no hg), if_neg hg]
  ·rw [at_ok (tk_no hm), if_neg hm]; rfl
 ·rw [at_err (nm_no hk), if_neg hk]
theorem hit_three (t a b c : ByteArray) : hit t [a, b, c] = ((t.toList == a.toList) || ((t.toList == b.toList) || (t.toList == c.toList))) := by simp [hit]
theorem typR1_eq (r : Rdr) (s : Bool) (sub : PM Tree) (lv : Int) (h : lv ≤ 60) : typR1 r s sub lv = typAt r s sub := by
 funext i
 have hd : deepM lv i = .ok ((), i) := by unfold deepM; rw [if_neg (by omega)]; rfl
 unfold typR1
 rw [at_ok hd]
 show wordsR r (fun w => ndM 15 w (r.L.getD i tok0).at_ []) (typSelfR r s sub (r.L.getD i tok0).at_) W3 i = _
 unfold typAt
 have step : ∀ (v : ByteArray) (vs : List ByteArray) (k : ByteArray → PM Tree) (rest : PM Tree), wordsR r k rest (v :: vs) i = if isMark r i v = true then k v (i + 1) else wordsR r k rest vs i := by
  intro v vs k rest
  show bindM (tookM r v) (fun b => match b with | true => k v | false => wordsR r k rest vs) i = _
  by_cases hm : isMark r i v = true
  ·rw [at_ok (tk_yes hm), if_pos hm]
  ·rw [at_ok (tk_no hm), if_neg hm]
 have same : ∀ v : ByteArray, isMark r i v = true → (r.L.getD i tok0).text = v := fun v hv => bytes_ext (by unfold isMark at hv; simpa using hv)
 unfold W3
 rw [step, step, step, hit_three]
 by_cases h0 : isMark r i ⟨#[105, 110, 116]⟩ = true
 ·rw [if_pos h0, if_pos (by have := h0; unfold isMark at this; rw [this]; rfl), same _ h0]; rfl
 rw [if_neg h0]
 have h0' : ((r.L.getD i tok0).text.toList == (⟨#[105, 110, 116]⟩ : ByteArray).toList) = false := by simpa [isMark] using h0
 by_cases h1 : isMark r i ⟨#[98, 111, 111, 108]⟩ = true
 ·rw [if_pos h1, if_pos (by have := h1; unfold isMark at this; rw [this, h0']; rfl), same _ h1]; rfl
 rw [if_neg h1]
 have h1' : ((r.L.getD i tok0).text.toList == (⟨#[98, 111, 111, 108]⟩ : ByteArray).toList) = false := by simpa [isMark] using h1
 by_cases h2 : isMark r i ⟨#[117, 110, 105, 116]⟩ = true
 ·rw [if_pos h2, if_pos (by have := h2; unfold isMark at this; rw [this, h0', h1']; rfl), same _ h2]; rfl
 rw [if_neg h2]
 have h2' : ((r.L.getD i tok0).text.toList == (⟨#[117, 110, 105, 116]⟩ : ByteArray).toList) = false := by simpa [isMark] using h2
 rw [if_neg (by rw [h0', h1', h2']; decide)]
 show typSelfR r s sub (r.L.getD i tok0).at_ i = _
 cases s with
 | false => rw [if_neg (by simp)]; exact typName_eq r sub i
 | true =>
  show bindM (tookM r selfB) (fun b => match b with | true => ndM 15 selfB (r.L.getD i tok0).at_ [] | false => typNameR r sub (r.L.getD i tok0).at_) i = _
  by_cases hs : isMark r i selfB = true
  ·rw [at_ok (tk_yes hs), if_pos ⟨rfl, hs⟩]; rfl
  ·rw [at_ok (tk_no hs), if_neg (fun e => hs e.2)]
   exact typName_eq r sub i
def overR (r : Rdr) : PM Tree := bindM (deepM 61) fun _ => bindM (hereM r) fun a => failM
theorem overR_eq (r : Rdr) : overR r = failM := rfl
set_option maxRecDepth 100000 in
set_option maxHeartbeats 4000000 in
theorem rTyp_over (r : Rdr) (σ : Except Nat Nat) (s : Bool)  (w : World) (h : RrAt r σ s w) (hE : EndAt r) (hK : Known r.L) :
  Calls Tryz.prog 41 #[.pointer (some ⟨r.b, 0, none⟩), .int .i64 61] w (RrPost r (overR r) σ s w) := by
 have HT := Lib.hid (St.start h)
 have HE := Lib.hid hE
 have HK := Lib.hid hK
 obtain ⟨P, hP⟩ : ∃ P, (overR r) = P := ⟨_, rfl⟩
 have hd : Due P σ (overR r) σ := by rw [hP]; exact Due.refl _ _
 rw [hP]
 clear hP
 unfold overR at hd
 have HD := Lib.hid hd
 clear h hE hK hd
 go_enter Tryz.func41, Tryz.ntmps41
 go_wp2_with fail
 generalize w.alloc (.cells #[.int .i64 0, .string ⟨#[]⟩, .int .i64 0, .slice none 0 0] 40) = w1 at *
 have hov : after (deepM 61) σ = .error (badOf σ) := deep_over (by decide) σ
 have HOV := Lib.hid hov
 clear hov
 refine (deep_r r _ s 61 _ HT.out.rr).mono ?_
 rintro e w2 ⟨rfl, hr, hm⟩
 replace HD := Lib.hid (HD.out.step (Got.unit _ _))
 replace HT := Lib.hid (HT.out.on hr hm)
 clear hr hm
 replace HD := Lib.hid (HD.out.at_ HOV.out)
 have hT2 := HT.out
 rw [HOV.out] at hT2
 replace HT := Lib.hid hT2
 clear hT2
 go_wp2_with fail
 refine (here_r r _ s _ HT.out.rr).mono ?_
 rintro e w3 ⟨a, rfl, hr, hm, hg⟩
 replace HD := Lib.hid (HD.out.step hg)
 replace HT := Lib.hid (HT.out.on hr hm)
 clear hr hm hg
 go_wp2_with fail
 refine (ok_r r _ s _ HT.out.rr).mono ?_
 rintro e w4 ⟨b, rfl, rfl, hb⟩
 rcases hb with ⟨rfl, i, hi⟩ | ⟨rfl, k, hk⟩
 ·cases hi
 replace HD := Lib.hid (HD.out.at_ hk)
 have hT2 := HT.out
 rw [hk] at hT2
 replace HT := Lib.hid hT2
 clear hk hT2
 have HW := Lib.hid (HT.out.ret (q := ⟨0, ⟨#[]⟩, 0, none, 0, 0⟩) ((IsT.leaf _ _ 0 ⟨#[]⟩ 0)))
 obtain ⟨d0, d1, d2, d3, f0⟩ := HT.out.res.cells
 try unfold ndC
 go_wp2_with fail
 obtain ⟨hcell, hist, hrr, hmv⟩ := HW.out
 exact bodyPost_ret (results_cellT rfl _ _ _ ⟨w.heap.size, 0, none⟩ _ rfl (load_node _ _ ⟨0, ⟨#[]⟩, 0, none, 0, 0⟩ hcell)) rfl (HD.out.postE hist hrr hmv)
theorem rTypL_any (r : Rdr) (s : Bool) (hE : EndAt r) (hK : Known r.L) : ∀ d : Nat, d ≤ 60 → ∀ (σ : Except Nat Nat) (w : World), RrAt r σ s w → Calls Tryz.prog 41 #[.pointer (some ⟨r.b, 0, none⟩), .int .i64 (61 - (d : Int))] w (RrPost r (typL r s d) σ s w)
 | 0, _, σ, w, h => by
  have := rTyp_over r σ s w h hE hK
  rw [overR_eq] at this
  exact this
 | d + 1, hd, σ, w, h => by
  have hl : (61 : Int) - ((d + 1 : Nat) : Int) + 1 = 61 - (d : Int) := by omega
  have := rTyp_any r σ s (typL r s d) (61 - ((d + 1 : Nat) : Int)) (by omega) (typL_mono d) w h hE hK (fun σ1 w1 h1 => by rw [hl]; exact rTypL_any r s hE hK d (by omega) σ1 w1 h1)
  rw [typR1_eq r s _ _ (by omega)] at this
  exact this
theorem rType_any (r : Rdr) (s : Bool) (hE : EndAt r) (hK : Known r.L) (σ : Except Nat Nat) (w : World) (h : RrAt r σ s w) : Calls Tryz.prog 41 #[.pointer (some ⟨r.b, 0, none⟩), .int .i64 1] w (RrPost r (typL r s 60) σ s w) := rTypL_any r s hE hK 60 (by decide) σ w h
end Go.Proofs.YtgcaeimlmkkeoaaGreat
