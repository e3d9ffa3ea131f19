/-
  CONTRACT: the reference's reader: fun.
-/
import Derived.Test.YtgcaeimlmkkeoaaGreatZR7
set_option linter.unusedSimpArgs false
set_option linter.unusedVariables false
namespace Go.Proofs.YtgcaeimlmkkeoaaGreat
open Go Go.RowKit
def funK (r : Rdr) (T Bk : PM Tree) (at_ : Int) (nm : ByteArray) (p : Tree) : PM Tree := bindM (needM r ⟨#[40]⟩) fun _ => bindM (argsR r ⟨#[41]⟩ T) fun q => bindM (resultR r T) fun o => bindM Bk fun b => ndM 4 nm at_ [p, q, o, b]
def funR (r : Rdr) (flag : Bool) (T Bk : PM Tree) (at_ : Int) : PM Tree := bindM (nameM r) fun nm => bindM (hereM r) fun a => match flag with
 | true => bindM (paramsR r) fun p => funK r T Bk at_ nm p
 | false => funK r T Bk at_ nm (.mk 10 ⟨#[]⟩ a [])
set_option maxRecDepth 100000 in
set_option maxHeartbeats 4000000 in
theorem rFun_any (r : Rdr) (σ : Except Nat Nat) (s : Bool) (flag : Bool) (T Bk : PM Tree) (at_ : Int) (hup : Up T) (w : World) (h : RrAt r σ s w) (hE : EndAt r) (hK : Known r.L) (hT : ∀ σ1 w1, RrAt r σ1 s w1 → Calls Tryz.prog 41 #[.pointer (some ⟨r.b, 0, none⟩), .int .i64 1] w1 (RrPost r T σ1 s w1)) (hB : ∀ σ1 w1, RrAt r σ1 s w1 → Calls Tryz.prog 88 #[.pointer (some ⟨r.b, 0, none⟩), .int .i64 1] w1 (RrPost r Bk σ1 s w1)) :
  Calls Tryz.prog 59 #[.pointer (some ⟨r.b, 0, none⟩), .int .i64 at_, .bool flag] w (RrPost r (funR r flag T Bk at_) σ s w) := by
 have HT := Lib.hid (St.start h)
 have HE := Lib.hid hE
 have HK := Lib.hid hK
 have HTY := Lib.hid hT
 have HUP := Lib.hid hup
 have HBK := Lib.hid hB
 obtain ⟨P, hP⟩ : ∃ P, (funR r flag T Bk at_) = P := ⟨_, rfl⟩
 have hd : Due P σ (funR r flag T Bk at_) σ := by rw [hP]; exact Due.refl _ _
 rw [hP]
 clear hP
 unfold funR at hd
 have HD := Lib.hid hd
 clear h hE hK hd hT hB
 go_enter Tryz.func59, Tryz.ntmps59
 go_wp2_with fail
 generalize w.alloc (.cells #[.int .i64 0, .string ⟨#[]⟩, .int .i64 0, .slice none 0 0] 40) = w1 at *
 refine (name_r r _ s _ HT.out.rr HE.out).mono ?_
 rintro e w2 ⟨nm, rfl, hr, hm, hg⟩
 replace HD := Lib.hid (HD.out.step hg)
 replace HT := Lib.hid (HT.out.on hr hm)
 clear hr hm hg
 go_wp2_with fail
 refine (here_r r _ s _ HT.out.rr).mono ?_
 rintro e w3 ⟨a, rfl, hr, hm, hg⟩
 replace HD := Lib.hid (HD.out.step hg)
 replace HT := Lib.hid (HT.out.on hr hm)
 clear hr hm hg
 go_wp2_with fail
 refine (leaf_r 10 ⟨#[]⟩ a none 0 0 _ HT.out.rr).mono ?_
 rintro e w4 ⟨rfl, hr, hm⟩
 replace HT := Lib.hid (HT.out.on hr hm)
 clear hr hm
 have HI := Lib.hid (IsT.leaf (fun b => w.heap.size < b) w4 10 ⟨#[]⟩ a)
 obtain ⟨q1, hq1⟩ : ∃ q1 : Raw, q1 = ⟨10, ⟨#[]⟩, a, none, 0, 0⟩ := ⟨_, rfl⟩
 obtain ⟨t1, ht1⟩ : ∃ t1, t1 = Tree.mk 10 ⟨#[]⟩ a [] := ⟨_, rfl⟩
 rw [← hq1, ← ht1] at HI
 have HT1 := Lib.hid ht1
 rw [← hq1]
 clear hq1 ht1
 cases flag
 ·replace HD : Hid (Due P σ (funK r T Bk at_ nm t1) (after (hereM r) (after (nameM r) σ))) := by rw [HT1.out]; exact HD
  clear HT1
  unfold ndC
  go_wp2_with fail
  have HP := Lib.hid (Var.first HT.out HI.out)
  have hbx := boxB w4 (.cells (ndC q1) 40)
  replace HT := Lib.hid (HT.out.on (HT.out.rr.below hbx) (Mv.of_below hbx))
  clear hbx HI
  unfold ndC at HP HT 
  obtain ⟨g1, hg⟩ : ∃ g1, w4.heap.size = g1 := ⟨_, rfl⟩
  rw [hg] at HP ⊢
  generalize w4.alloc (.cells #[.int .i64 q1.kind, .string q1.text, .int .i64 q1.at_, .slice q1.p q1.n q1.cap] 40) = w5 at *
  clear hg
  refine (need_r r _ s ⟨#[40]⟩ _ HT.out.rr HE.out HK.out (by decide) (known_of (by decide))).mono ?_
  rintro e w6 ⟨rfl, hr, hm⟩
  replace HD := Lib.hid (HD.out.step (Got.unit _ _))
  replace HT := Lib.hid (HT.out.on hr hm)
  replace HP := Lib.hid (HP.out.on hm)
  clear hr hm
  go_wp2_with fail
  refine (rArgs_any r _ s T ⟨#[41]⟩ ⟨by decide, known_of (by decide)⟩ HUP.out _ HT.out.rr HE.out HK.out HTY.out).mono ?_
  rintro e w7 ⟨q2, t2, rfl, ht, hr, hm, hg⟩
  have HI := Lib.hid (ht.mono (fun b hb => Nat.lt_of_lt_of_le HT.out.up hb))
  replace HD := Lib.hid (HD.out.step hg)
  replace HT := Lib.hid (HT.out.on hr hm)
  replace HP := Lib.hid (HP.out.on hm)
  clear hr hm hg ht
  unfold ndC
  go_wp2_with fail
  have HQ := Lib.hid (Var.first HT.out HI.out)
  have hbx := boxB w7 (.cells (ndC q2) 40)
  replace HT := Lib.hid (HT.out.on (HT.out.rr.below hbx) (Mv.of_below hbx))
  replace HP := Lib.hid (HP.out.on (Mv.of_below hbx))
  clear hbx HI
  unfold ndC at HQ HT HP
  obtain ⟨g2, hg⟩ : ∃ g2, w7.heap.size = g2 := ⟨_, rfl⟩
  rw [hg] at HQ ⊢
  generalize w7.alloc (.cells #[.int .i64 q2.kind, .string q2.text, .int .i64 q2.at_, .slice q2.p q2.n q2.cap] 40) = w8 at *
  clear hg
  refine (rResult_any r _ s T _ HT.out.rr HE.out HK.out HTY.out).mono ?_
  rintro e w9 ⟨q3, t3, rfl, ht, hr, hm, hg⟩
  have HI := Lib.hid (ht.mono (fun b hb => Nat.lt_of_lt_of_le HT.out.up hb))
  replace HD := Lib.hid (HD.out.step hg)
  replace HT := Lib.hid (HT.out.on hr hm)
  replace HP := Lib.hid (HP.out.on hm)
  replace HQ := Lib.hid (HQ.out.on hm)
  clear hr hm hg ht
  unfold ndC
  go_wp2_with fail
  have HV := Lib.hid (Var.first HT.out HI.out)
  have hbx := boxB w9 (.cells (ndC q3) 40)
  replace HT := Lib.hid (HT.out.on (HT.out.rr.below hbx) (Mv.of_below hbx))
  replace HP := Lib.hid (HP.out.on (Mv.of_below hbx))
  replace HQ := Lib.hid (HQ.out.on (Mv.of_below hbx))
  clear hbx HI
  unfold ndC at HV HT HP HQ
  obtain ⟨g3, hg⟩ : ∃ g3, w9.heap.size = g3 := ⟨_, rfl⟩
  rw [hg] at HV ⊢
  generalize w9.alloc (.cells #[.int .i64 q3.kind, .string q3.text, .int .i64 q3.at_, .slice q3.p q3.n q3.cap] 40) = w10 at *
  clear hg
  generalize after (resultR r T) _ = σ9 at HT HD
  have HO : Hid (∀ b, (none : Option Nat) = some b → r.b < b ∧ b < w10.heap.size) := fun b e => by cases e
  have HRW : Hid (r.b < w10.heap.size) := HT.out.rr.rb
  apply wp_region_many 8 (Sx r none 6 1000) (InvX r w none w10) (F0x r σ9 s (r.b + 1) (.slice none 0 0) [] 6 1000)
  case hIS => exact fun i x y hs hi => hi.step i hs (fun b e => by cases e)
  case hk0 => exact F0x.keeps (v := .slice none 0 0) (by omega) (fun b e => by cases e)
  case hm => kernel_rfl
  case hB => kernel_rfl
  case h0 => exact InvX.start HT.out.mv
  case h1 => exact F0x.start HT.out.rr (Nodes.none _ _)
  simp only [List.take_succ_cons, List.take_zero, List.drop_succ_cons, List.drop_zero]
  apply wpMany_cons (t := tvIs (.string nm)) (tvIs_goodS _ _)
  case h1 =>
   intro W hI hl
   unfold oneAt
   go_simp
   exact sx_is (by decide) (by decide)
  intro _
  rw [tvIs_f]
  go_simp
  apply wpMany_cons (t := tvIs (.int .i64 at_)) (tvIs_goodS _ _)
  case h1 =>
   intro W hI hl
   unfold oneAt
   go_simp
   exact sx_is (by decide) (by decide)
  intro _
  rw [tvIs_f]
  go_simp
  apply wpMany_cons (t := tvIs (.agg #[.int .i64 q1.kind, .string q1.text, .int .i64 q1.at_, .slice q1.p q1.n q1.cap])) (tvIs_goodS _ _)
  case h1 =>
   intro W hI hl
   obtain ⟨b0, b1, b2, b3⟩ := (hI.box HP.out.box (fun e => by cases e)).cells
   unfold oneAt
   go_simp
   exact sx_is (by decide) (by decide)
  intro _
  rw [tvIs_f]
  go_simp
  apply wpMany_cons (t := tvIs (.agg #[.int .i64 q2.kind, .string q2.text, .int .i64 q2.at_, .slice q2.p q2.n q2.cap])) (tvIs_goodS _ _)
  case h1 =>
   intro W hI hl
   obtain ⟨b0, b1, b2, b3⟩ := (hI.box HQ.out.box (fun e => by cases e)).cells
   unfold oneAt
   go_simp
   exact sx_is (by decide) (by decide)
  intro _
  rw [tvIs_f]
  go_simp
  apply wpMany_cons (t := tvIs (.agg #[.int .i64 q3.kind, .string q3.text, .int .i64 q3.at_, .slice q3.p q3.n q3.cap])) (tvIs_goodS _ _)
  case h1 =>
   intro W hI hl
   obtain ⟨b0, b1, b2, b3⟩ := (hI.box HV.out.box (fun e => by cases e)).cells
   unfold oneAt
   go_simp
   exact sx_is (by decide) (by decide)
  intro _
  rw [tvIs_f]
  go_simp
  apply wpMany_cons (t := tvIs (.pointer (some ⟨r.b, 0, none⟩))) (tvIs_goodS _ _)
  case h1 =>
   intro W hI hl
   unfold oneAt
   go_simp
   exact sx_is (by decide) (by decide)
  intro _
  rw [tvIs_f]
  go_simp
  apply wpMany_cons (t := tyCall r w10 (Bk) σ9 s) (tyCall_good HRW.out (fun b e => by have := HO.out b e; omega))
  case h1 =>
   intro W hI hl
   have hr : RrAt r σ9 s W := hl.1.1 rfl
   unfold oneAt
   go_simp
   exact sx_call hI (HBK.out _ W hr)
  rintro ⟨q5, t5⟩
  rw [tyCall_f]
  unfold ndC
  go_simp
  apply wpMany_cons (t := tyRowA (fun b => w.heap.size < b) 4 (fun l => ∃ u, l = [t1, t2, t3, u] ∧ Got (Bk) σ9 u)) (tyRowA_good (fun b hb => ⟨by have := HT.out.rb; omega, fun e => by cases e⟩))
  case h1 =>
   intro W hI hl
   have h5 : IsT (fun b => w10.heap.size ≤ b) W q5 t5 ∧ RrAt r (after (Bk) σ9) s W ∧ Got (Bk) σ9 t5 := hl.2 ⟨6, .data⟩ (by simp) rfl
   have hvt0 := (HP.out.inv hI).val
   have hvt1 := (HQ.out.inv hI).val
   have hvt2 := (HV.out.inv hI).val
   unfold oneAt
   go_simp
   exact sx_rowA [q1, q2, q3, q5] [t1, t2, t3, t5] hI (fun b hb => Nat.lt_of_lt_of_le HT.out.up hb) (by decide) (by decide) rfl rfl rfl (by decide) (by decide) (fun i a b => match i, a, b with | 0, _, _ => hvt0 | 1, _, _ => hvt1 | 2, _, _ => hvt2 | 3, _, _ => h5.1.mono (fun b hb => Nat.lt_of_lt_of_le HT.out.up hb) | i + 4, c, _ => absurd c (by simp)) (⟨t5, rfl, h5.2.2⟩)
  rintro ⟨g6, l6⟩
  rw [tyRowA_f]
  go_simp
  apply wpMany_nil (Ts := [])
  intro w20 hI hFa
  have h5 : IsT (fun b => w10.heap.size ≤ b) w20 q5 t5 ∧ RrAt r (after (Bk) σ9) s w20 ∧ Got (Bk) σ9 t5 := hFa 6
  have h6 : IsTs (fun b => w.heap.size < b) w20 (.slice (some ⟨g6, 0, none⟩) 4 4) l6 ∧ ∃ u, l6 = [t1, t2, t3, u] ∧ Got (Bk) σ9 u := hFa 7
  obtain ⟨hl6, u6, rfl, hg6⟩ := h6
  replace HD := Lib.hid (HD.out.step hg6)
  replace HT := Lib.hid (hI.st HT.out h5.2.1 (fun b e => by cases e))
  have HN := Lib.hid hl6
  clear hI hFa h5 hl6 hg6 HO HRW
  go_wp2_with fail
  refine (leaf_r 4 nm at_ (some ⟨g6, 0, none⟩) 4 4 _ HT.out.rr).mono ?_
  rintro e w22 ⟨rfl, hr, hm⟩
  replace HT := Lib.hid (HT.out.on hr hm)
  replace HN := Lib.hid (HN.out.but hm (fun a e q => by have e2 : a.block = r.b := e; have := HT.out.rb; omega))
  clear hr hm
  have HW := Lib.hid (HT.out.ret (q := ⟨4, nm, at_, some ⟨g6, 0, none⟩, 4, 4⟩) (IsT.node _ _ _ HN.out))
  obtain ⟨d0, d1, d2, d3, f0⟩ := HT.out.res.cells
  try unfold ndC
  go_wp2_with fail
  obtain ⟨hcell, hist, hrr, hmv⟩ := HW.out
  exact bodyPost_ret (results_cellT rfl _ _ _ ⟨w.heap.size, 0, none⟩ _ rfl (load_node _ _ ⟨4, nm, at_, some ⟨g6, 0, none⟩, 4, 4⟩ hcell)) rfl (HD.out.postP hist hrr hmv)
 ·unfold ndC
  go_wp2_with fail
  have HP := Lib.hid (Var.first HT.out HI.out)
  have hbx := boxB w4 (.cells (ndC q1) 40)
  replace HT := Lib.hid (HT.out.on (HT.out.rr.below hbx) (Mv.of_below hbx))
  clear hbx HI
  unfold ndC at HP HT 
  obtain ⟨g1, hg⟩ : ∃ g1, w4.heap.size = g1 := ⟨_, rfl⟩
  rw [hg] at HP ⊢
  generalize w4.alloc (.cells #[.int .i64 q1.kind, .string q1.text, .int .i64 q1.at_, .slice q1.p q1.n q1.cap] 40) = w5 at *
  clear hg
  refine (rParams_any r _ s _ HT.out.rr HE.out HK.out).mono ?_
  rintro e w24 ⟨q4, t4, rfl, ht, hr, hm, hg⟩
  have HI := Lib.hid (ht.mono (fun b hb => (⟨Nat.lt_of_lt_of_le HT.out.up hb, by have := lt_heap HP.out.box.z; omega⟩ : since w g1 b)))
  replace HD := Lib.hid (HD.out.step hg)
  replace HT := Lib.hid (HT.out.on hr hm)
  replace HP := Lib.hid (HP.out.on hm)
  clear hr hm hg ht
  have hst := HP.out.store HT.out HI.out
  obtain ⟨b0, b1, b2, b3⟩ := HP.out.box.cells
  have fz := HP.out.box.warm'
  replace HT := Lib.hid hst.1
  replace HP := Lib.hid hst.2
  clear hst HI HT1
  unfold ndC
  go_wp2_with fail
  clear b0 b1 b2 b3 fz
  generalize (((w24.setCell ⟨g1, 0, none⟩ (.int .i64 q4.kind)).setCell ⟨g1, 1, none⟩ (.string q4.text)).setCell ⟨g1, 2, none⟩ (.int .i64 q4.at_)).setCell ⟨g1, 3, none⟩ (.slice q4.p q4.n q4.cap) = w25 at *
  refine (need_r r _ s ⟨#[40]⟩ _ HT.out.rr HE.out HK.out (by decide) (known_of (by decide))).mono ?_
  rintro e w6 ⟨rfl, hr, hm⟩
  replace HD := Lib.hid (HD.out.step (Got.unit _ _))
  replace HT := Lib.hid (HT.out.on hr hm)
  replace HP := Lib.hid (HP.out.on hm)
  clear hr hm
  go_wp2_with fail
  refine (rArgs_any r _ s T ⟨#[41]⟩ ⟨by decide, known_of (by decide)⟩ HUP.out _ HT.out.rr HE.out HK.out HTY.out).mono ?_
  rintro e w7 ⟨q2, t2, rfl, ht, hr, hm, hg⟩
  have HI := Lib.hid (ht.mono (fun b hb => Nat.lt_of_lt_of_le HT.out.up hb))
  replace HD := Lib.hid (HD.out.step hg)
  replace HT := Lib.hid (HT.out.on hr hm)
  replace HP := Lib.hid (HP.out.on hm)
  clear hr hm hg ht
  unfold ndC
  go_wp2_with fail
  have HQ := Lib.hid (Var.first HT.out HI.out)
  have hbx := boxB w7 (.cells (ndC q2) 40)
  replace HT := Lib.hid (HT.out.on (HT.out.rr.below hbx) (Mv.of_below hbx))
  replace HP := Lib.hid (HP.out.on (Mv.of_below hbx))
  clear hbx HI
  unfold ndC at HQ HT HP
  obtain ⟨g2, hg⟩ : ∃ g2, w7.heap.size = g2 := ⟨_, rfl⟩
  rw [hg] at HQ ⊢
  generalize w7.alloc (.cells #[.int .i64 q2.kind, .string q2.text, .int .i64 q2.at_, .slice q2.p q2.n q2.cap] 40) = w8 at *
  clear hg
  refine (rResult_any r _ s T _ HT.out.rr HE.out HK.out HTY.out).mono ?_
  rintro e w9 ⟨q3, t3, rfl, ht, hr, hm, hg⟩
  have HI := Lib.hid (ht.mono (fun b hb => Nat.lt_of_lt_of_le HT.out.up hb))
  replace HD := Lib.hid (HD.out.step hg)
  replace HT := Lib.hid (HT.out.on hr hm)
  replace HP := Lib.hid (HP.out.on hm)
  replace HQ := Lib.hid (HQ.out.on hm)
  clear hr hm hg ht
  unfold ndC
  go_wp2_with fail
  have HV := Lib.hid (Var.first HT.out HI.out)
  have hbx := boxB w9 (.cells (ndC q3) 40)
  replace HT := Lib.hid (HT.out.on (HT.out.rr.below hbx) (Mv.of_below hbx))
  replace HP := Lib.hid (HP.out.on (Mv.of_below hbx))
  replace HQ := Lib.hid (HQ.out.on (Mv.of_below hbx))
  clear hbx HI
  unfold ndC at HV HT HP HQ
  obtain ⟨g3, hg⟩ : ∃ g3, w9.heap.size = g3 := ⟨_, rfl⟩
  rw [hg] at HV ⊢
  generalize w9.alloc (.cells #[.int .i64 q3.kind, .string q3.text, .int .i64 q3.at_, .slice q3.p q3.n q3.cap] 40) = w10 at *
  clear hg
  generalize after (resultR r T) _ = σ9 at HT HD
  have HO : Hid (∀ b, (none : Option Nat) = some b → r.b < b ∧ b < w10.heap.size) := fun b e => by cases e
  have HRW : Hid (r.b < w10.heap.size) := HT.out.rr.rb
  apply wp_region_many 8 (Sx r none 6 1000) (InvX r w none w10) (F0x r σ9 s (r.b + 1) (.slice none 0 0) [] 6 1000)
  case hIS => exact fun i x y hs hi => hi.step i hs (fun b e => by cases e)
  case hk0 => exact F0x.keeps (v := .slice none 0 0) (by omega) (fun b e => by cases e)
  case hm => kernel_rfl
  case hB => kernel_rfl
  case h0 => exact InvX.start HT.out.mv
  case h1 => exact F0x.start HT.out.rr (Nodes.none _ _)
  simp only [List.take_succ_cons, List.take_zero, List.drop_succ_cons, List.drop_zero]
  apply wpMany_cons (t := tvIs (.string nm)) (tvIs_goodS _ _)
  case h1 =>
   intro W hI hl
   unfold oneAt
   go_simp
   exact sx_is (by decide) (by decide)
  intro _
  rw [tvIs_f]
  go_simp
  apply wpMany_cons (t := tvIs (.int .i64 at_)) (tvIs_goodS _ _)
  case h1 =>
   intro W hI hl
   unfold oneAt
   go_simp
   exact sx_is (by decide) (by decide)
  intro _
  rw [tvIs_f]
  go_simp
  apply wpMany_cons (t := tvIs (.agg #[.int .i64 q4.kind, .string q4.text, .int .i64 q4.at_, .slice q4.p q4.n q4.cap])) (tvIs_goodS _ _)
  case h1 =>
   intro W hI hl
   obtain ⟨b0, b1, b2, b3⟩ := (hI.box HP.out.box (fun e => by cases e)).cells
   unfold oneAt
   go_simp
   exact sx_is (by decide) (by decide)
  intro _
  rw [tvIs_f]
  go_simp
  apply wpMany_cons (t := tvIs (.agg #[.int .i64 q2.kind, .string q2.text, .int .i64 q2.at_, .slice q2.p q2.n q2.cap])) (tvIs_goodS _ _)
  case h1 =>
   intro W hI hl
   obtain ⟨b0, b1, b2, b3⟩ := (hI.box HQ.out.box (fun e => by cases e)).cells
   unfold oneAt
   go_simp
   exact sx_is (by decide) (by decide)
  intro _
  rw [tvIs_f]
  go_simp
  apply wpMany_cons (t := tvIs (.agg #[.int .i64 q3.kind, .string q3.text, .int .i64 q3.at_, .slice q3.p q3.n q3.cap])) (tvIs_goodS _ _)
  case h1 =>
   intro W hI hl
   obtain ⟨b0, b1, b2, b3⟩ := (hI.box HV.out.box (fun e => by cases e)).cells
   unfold oneAt
   go_simp
   exact sx_is (by decide) (by decide)
  intro _
  rw [tvIs_f]
  go_simp
  apply wpMany_cons (t := tvIs (.pointer (some ⟨r.b, 0, none⟩))) (tvIs_goodS _ _)
  case h1 =>
   intro W hI hl
   unfold oneAt
   go_simp
   exact sx_is (by decide) (by decide)
  intro _
  rw [tvIs_f]
  go_simp
  apply wpMany_cons (t := tyCall r w10 (Bk) σ9 s) (tyCall_good HRW.out (fun b e => by have := HO.out b e; omega))
  case h1 =>
   intro W hI hl
   have hr : RrAt r σ9 s W := hl.1.1 rfl
   unfold oneAt
   go_simp
   exact sx_call hI (HBK.out _ W hr)
  rintro ⟨q5, t5⟩
  rw [tyCall_f]
  unfold ndC
  go_simp
  apply wpMany_cons (t := tyRowA (fun b => w.heap.size < b) 4 (fun l => ∃ u, l = [t4, t2, t3, u] ∧ Got (Bk) σ9 u)) (tyRowA_good (fun b hb => ⟨by have := HT.out.rb; omega, fun e => by cases e⟩))
  case h1 =>
   intro W hI hl
   have h5 : IsT (fun b => w10.heap.size ≤ b) W q5 t5 ∧ RrAt r (after (Bk) σ9) s W ∧ Got (Bk) σ9 t5 := hl.2 ⟨6, .data⟩ (by simp) rfl
   have hvt0 := (HP.out.inv hI).val
   have hvt4 := (HQ.out.inv hI).val
   have hvt2 := (HV.out.inv hI).val
   unfold oneAt
   go_simp
   exact sx_rowA [q4, q2, q3, q5] [t4, t2, t3, t5] hI (fun b hb => Nat.lt_of_lt_of_le HT.out.up hb) (by decide) (by decide) rfl rfl rfl (by decide) (by decide) (fun i a b => match i, a, b with | 0, _, _ => hvt0 | 1, _, _ => hvt4 | 2, _, _ => hvt2 | 3, _, _ => h5.1.mono (fun b hb => Nat.lt_of_lt_of_le HT.out.up hb) | i + 4, c, _ => absurd c (by simp)) (⟨t5, rfl, h5.2.2⟩)
  rintro ⟨g6, l6⟩
  rw [tyRowA_f]
  go_simp
  apply wpMany_nil (Ts := [])
  intro w20 hI hFa
  have h5 : IsT (fun b => w10.heap.size ≤ b) w20 q5 t5 ∧ RrAt r (after (Bk) σ9) s w20 ∧ Got (Bk) σ9 t5 := hFa 6
  have h6 : IsTs (fun b => w.heap.size < b) w20 (.slice (some ⟨g6, 0, none⟩) 4 4) l6 ∧ ∃ u, l6 = [t4, t2, t3, u] ∧ Got (Bk) σ9 u := hFa 7
  obtain ⟨hl6, u6, rfl, hg6⟩ := h6
  replace HD := Lib.hid (HD.out.step hg6)
  replace HT := Lib.hid (hI.st HT.out h5.2.1 (fun b e => by cases e))
  have HN := Lib.hid hl6
  clear hI hFa h5 hl6 hg6 HO HRW
  go_wp2_with fail
  refine (leaf_r 4 nm at_ (some ⟨g6, 0, none⟩) 4 4 _ HT.out.rr).mono ?_
  rintro e w22 ⟨rfl, hr, hm⟩
  replace HT := Lib.hid (HT.out.on hr hm)
  replace HN := Lib.hid (HN.out.but hm (fun a e q => by have e2 : a.block = r.b := e; have := HT.out.rb; omega))
  clear hr hm
  have HW := Lib.hid (HT.out.ret (q := ⟨4, nm, at_, some ⟨g6, 0, none⟩, 4, 4⟩) (IsT.node _ _ _ HN.out))
  obtain ⟨d0, d1, d2, d3, f0⟩ := HT.out.res.cells
  try unfold ndC
  go_wp2_with fail
  obtain ⟨hcell, hist, hrr, hmv⟩ := HW.out
  exact bodyPost_ret (results_cellT rfl _ _ _ ⟨w.heap.size, 0, none⟩ _ rfl (load_node _ _ ⟨4, nm, at_, some ⟨g6, 0, none⟩, 4, 4⟩ hcell)) rfl (HD.out.postP hist hrr hmv)
end Go.Proofs.YtgcaeimlmkkeoaaGreat
namespace Go.Proofs.YtgcaeimlmkkeoaaGreat
open Go Go.RowKit
set_option maxRecDepth 100000 in
set_option maxHeartbeats 1000000 in
theorem rBegins_any (kd ax : Int) (tx : ByteArray) (w : World) :
  Calls Tryz.prog 35 #[.agg #[.int .i64 kd, .string tx, .int .i64 ax]] w fun e w' => e = .returned (.bool (decide (kd = 2) && begins tx)) ∧ Below w.heap.size w w' := by
 have hz : (w.alloc (.cells #[.int .i64 kd, .string tx, .int .i64 ax] 62)).heap[w.heap.size]? = some (.cells #[.int .i64 kd, .string tx, .int .i64 ax] 62 (0, 0)) := heap_alloc_new w _
 have hbx := Lib.hid (boxB w (.cells #[.int .i64 kd, .string tx, .int .i64 ax] 62))
 have x0 : (w.alloc (.cells #[.int .i64 kd, .string tx, .int .i64 ax] 62)).cell? ⟨w.heap.size, 0, none⟩ = some (.int .i64 kd) := by rw [Lib.cell_of_heap hz]; rfl
 have x1 : (w.alloc (.cells #[.int .i64 kd, .string tx, .int .i64 ax] 62)).cell? ⟨w.heap.size, 1, none⟩ = some (.string tx) := by rw [Lib.cell_of_heap hz]; rfl
 clear hz
 by_cases hk : kd = 2
 rotate_left
 ·have hk1 : (kd == 2) = false := beq_eq_false_iff_ne.2 hk
  obtain ⟨v, hv⟩ : ∃ v, (decide (kd = 2) && begins tx) = v := ⟨_, rfl⟩
  rw [hv]
  have hv2 : v = false := by rw [← hv, decide_eq_false hk]; rfl
  clear hv
  go_enter Tryz.func35, Tryz.ntmps35
  go_wp2_with fail
  go_ret
  exact ⟨by rw [hv2]; rfl, hbx.out⟩
 subst hk
 rw [decide_eq_true rfl, Bool.true_and]
 obtain ⟨v, hv⟩ : ∃ v, begins tx = v := ⟨_, rfl⟩
 rw [hv]
 unfold begins at hv
 cases h0 : isB tx ⟨#[117, 115, 101]⟩
 rotate_left
 ·have hv2 : v = true := by rw [← hv, h0]; simp
  clear hv
  have e0 : (tx.toList == [117, 115, 101]) = true := by rw [← h0, isB_lit]
  clear h0
  go_enter Tryz.func35, Tryz.ntmps35
  go_wp2_with fail
  go_ret
  exact ⟨by rw [hv2]; rfl, hbx.out⟩
 cases h1 : isB tx ⟨#[112, 117, 98]⟩
 rotate_left
 ·have hv2 : v = true := by rw [← hv, h0, h1]; simp
  clear hv
  have e0 : (tx.toList == [117, 115, 101]) = false := by rw [← h0, isB_lit]
  have e1 : (tx.toList == [112, 117, 98]) = true := by rw [← h1, isB_lit]
  clear h0 h1
  go_enter Tryz.func35, Tryz.ntmps35
  go_wp2_with fail
  go_ret
  exact ⟨by rw [hv2]; rfl, hbx.out⟩
 cases h2 : isB tx ⟨#[99, 111, 110, 115, 116]⟩
 rotate_left
 ·have hv2 : v = true := by rw [← hv, h0, h1, h2]; simp
  clear hv
  have e0 : (tx.toList == [117, 115, 101]) = false := by rw [← h0, isB_lit]
  have e1 : (tx.toList == [112, 117, 98]) = false := by rw [← h1, isB_lit]
  have e2 : (tx.toList == [99, 111, 110, 115, 116]) = true := by rw [← h2, isB_lit]
  clear h0 h1 h2
  go_enter Tryz.func35, Tryz.ntmps35
  go_wp2_with fail
  go_ret
  exact ⟨by rw [hv2]; rfl, hbx.out⟩
 cases h3 : isB tx ⟨#[102, 110]⟩
 rotate_left
 ·have hv2 : v = true := by rw [← hv, h0, h1, h2, h3]; simp
  clear hv
  have e0 : (tx.toList == [117, 115, 101]) = false := by rw [← h0, isB_lit]
  have e1 : (tx.toList == [112, 117, 98]) = false := by rw [← h1, isB_lit]
  have e2 : (tx.toList == [99, 111, 110, 115, 116]) = false := by rw [← h2, isB_lit]
  have e3 : (tx.toList == [102, 110]) = true := by rw [← h3, isB_lit]
  clear h0 h1 h2 h3
  go_enter Tryz.func35, Tryz.ntmps35
  go_wp2_with fail
  go_ret
  exact ⟨by rw [hv2]; rfl, hbx.out⟩
 cases h4 : isB tx ⟨#[116, 121, 112, 101]⟩
 rotate_left
 ·have hv2 : v = true := by rw [← hv, h0, h1, h2, h3, h4]; simp
  clear hv
  have e0 : (tx.toList == [117, 115, 101]) = false := by rw [← h0, isB_lit]
  have e1 : (tx.toList == [112, 117, 98]) = false := by rw [← h1, isB_lit]
  have e2 : (tx.toList == [99, 111, 110, 115, 116]) = false := by rw [← h2, isB_lit]
  have e3 : (tx.toList == [102, 110]) = false := by rw [← h3, isB_lit]
  have e4 : (tx.toList == [116, 121, 112, 101]) = true := by rw [← h4, isB_lit]
  clear h0 h1 h2 h3 h4
  go_enter Tryz.func35, Tryz.ntmps35
  go_wp2_with fail
  go_ret
  exact ⟨by rw [hv2]; rfl, hbx.out⟩
 cases h5 : isB tx ⟨#[116, 114, 97, 105, 116]⟩
 rotate_left
 ·have hv2 : v = true := by rw [← hv, h0, h1, h2, h3, h4, h5]; simp
  clear hv
  have e0 : (tx.toList == [117, 115, 101]) = false := by rw [← h0, isB_lit]
  have e1 : (tx.toList == [112, 117, 98]) = false := by rw [← h1, isB_lit]
  have e2 : (tx.toList == [99, 111, 110, 115, 116]) = false := by rw [← h2, isB_lit]
  have e3 : (tx.toList == [102, 110]) = false := by rw [← h3, isB_lit]
  have e4 : (tx.toList == [116, 121, 112, 101]) = false := by rw [← h4, isB_lit]
  have e5 : (tx.toList == [116, 114, 97, 105, 116]) = true := by rw [← h5, isB_lit]
  clear h0 h1 h2 h3 h4 h5
  go_enter Tryz.func35, Tryz.ntmps35
  go_wp2_with fail
  go_ret
  exact ⟨by rw [hv2]; rfl, hbx.out⟩
 cases h6 : isB tx ⟨#[105, 109, 112, 108]⟩
 rotate_left
 ·have hv2 : v = true := by rw [← hv, h0, h1, h2, h3, h4, h5, h6]; simp
  clear hv
  have e0 : (tx.toList == [117, 115, 101]) = false := by rw [← h0, isB_lit]
  have e1 : (tx.toList == [112, 117, 98]) = false := by rw [← h1, isB_lit]
  have e2 : (tx.toList == [99, 111, 110, 115, 116]) = false := by rw [← h2, isB_lit]
  have e3 : (tx.toList == [102, 110]) = false := by rw [← h3, isB_lit]
  have e4 : (tx.toList == [116, 121, 112, 101]) = false := by rw [← h4, isB_lit]
  have e5 : (tx.toList == [116, 114, 97, 105, 116]) = false := by rw [← h5, isB_lit]
  have e6 : (tx.toList == [105, 109, 112, 108]) = true := by rw [← h6, isB_lit]
  clear h0 h1 h2 h3 h4 h5 h6
  go_enter Tryz.func35, Tryz.ntmps35
  go_wp2_with fail
  go_ret
  exact ⟨by rw [hv2]; rfl, hbx.out⟩
 cases h7 : isB tx ⟨#[109, 97, 99, 114, 111]⟩
 rotate_left
 ·have hv2 : v = true := by rw [← hv, h0, h1, h2, h3, h4, h5, h6, h7]; simp
  clear hv
  have e0 : (tx.toList == [117, 115, 101]) = false := by rw [← h0, isB_lit]
  have e1 : (tx.toList == [112, 117, 98]) = false := by rw [← h1, isB_lit]
  have e2 : (tx.toList == [99, 111, 110, 115, 116]) = false := by rw [← h2, isB_lit]
  have e3 : (tx.toList == [102, 110]) = false := by rw [← h3, isB_lit]
  have e4 : (tx.toList == [116, 121, 112, 101]) = false := by rw [← h4, isB_lit]
  have e5 : (tx.toList == [116, 114, 97, 105, 116]) = false := by rw [← h5, isB_lit]
  have e6 : (tx.toList == [105, 109, 112, 108]) = false := by rw [← h6, isB_lit]
  have e7 : (tx.toList == [109, 97, 99, 114, 111]) = true := by rw [← h7, isB_lit]
  clear h0 h1 h2 h3 h4 h5 h6 h7
  go_enter Tryz.func35, Tryz.ntmps35
  go_wp2_with fail
  go_ret
  exact ⟨by rw [hv2]; rfl, hbx.out⟩
 have hv2 : v = false := by rw [← hv, h0, h1, h2, h3, h4, h5, h6, h7]; rfl
 clear hv
 have e0 : (tx.toList == [117, 115, 101]) = false := by rw [← h0, isB_lit]
 have e1 : (tx.toList == [112, 117, 98]) = false := by rw [← h1, isB_lit]
 have e2 : (tx.toList == [99, 111, 110, 115, 116]) = false := by rw [← h2, isB_lit]
 have e3 : (tx.toList == [102, 110]) = false := by rw [← h3, isB_lit]
 have e4 : (tx.toList == [116, 121, 112, 101]) = false := by rw [← h4, isB_lit]
 have e5 : (tx.toList == [116, 114, 97, 105, 116]) = false := by rw [← h5, isB_lit]
 have e6 : (tx.toList == [105, 109, 112, 108]) = false := by rw [← h6, isB_lit]
 have e7 : (tx.toList == [109, 97, 99, 114, 111]) = false := by rw [← h7, isB_lit]
 clear h0 h1 h2 h3 h4 h5 h6 h7
 go_enter Tryz.func35, Tryz.ntmps35
 go_wp2_with fail
 go_ret
 exact ⟨by rw [hv2]; rfl, hbx.out⟩
end Go.Proofs.YtgcaeimlmkkeoaaGreat
