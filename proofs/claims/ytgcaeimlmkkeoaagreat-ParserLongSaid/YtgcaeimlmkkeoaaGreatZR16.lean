/-
  CONTRACT: the reference's reader: an item: trait.
-/
import Derived.Test.YtgcaeimlmkkeoaaGreatZR14
set_option linter.unusedSimpArgs false
set_option linter.unusedVariables false
namespace Go.Proofs.YtgcaeimlmkkeoaaGreat
open Go Go.RowKit
set_option maxRecDepth 100000 in
set_option maxHeartbeats 4000000 in
theorem rItem_trait (r : Rdr) (i : Nat) (T : PM Tree) (hup : Up T)  (w : World) (h : RrAt r (.ok i) false w) (hE : EndAt r) (hK : Known r.L) (hT : ∀ σ1 w1, RrAt r σ1 true w1 → Calls Tryz.prog 41 #[.pointer (some ⟨r.b, 0, none⟩), .int .i64 1] w1 (RrPost r T σ1 true w1)) (n0 : isMark r i ⟨#[117, 115, 101]⟩ = false) (n1 : isMark r i ⟨#[112, 117, 98]⟩ = false) (n2 : isMark r i ⟨#[99, 111, 110, 115, 116]⟩ = false) (n3 : isMark r i ⟨#[102, 110]⟩ = false) (n4 : isMark r i ⟨#[116, 121, 112, 101]⟩ = false) (hk : isMark r i ⟨#[116, 114, 97, 105, 116]⟩ = true) :
  Calls Tryz.prog 33 #[.pointer (some ⟨r.b, 0, none⟩)] w (RrPost r (traR r T) (.ok i) false w) := by
 have HT := Lib.hid (St.start h)
 have HE := Lib.hid hE
 have HK := Lib.hid hK
 have HTY := Lib.hid hT
 have HUP := Lib.hid hup
 obtain ⟨P, hP⟩ : ∃ P, (traR r T) = P := ⟨_, rfl⟩
 have hd : Due P (.ok i) (traR r T) (.ok i) := by rw [hP]; exact Due.refl _ _
 rw [hP]
 clear hP
 unfold traR at hd
 unfold supR at hd
 have HD := Lib.hid hd
 clear h hE hK hd hT
 go_enter Tryz.func33, Tryz.ntmps33
 go_wp2_with fail
 generalize w.alloc (.cells #[.int .i64 0, .string ⟨#[]⟩, .int .i64 0, .slice none 0 0] 40) = w1 at *
 refine (here_r r _ false _ HT.out.rr).mono ?_
 rintro e w2 ⟨a, rfl, hr, hm, hg⟩
 replace HD := Lib.hid (HD.out.step hg)
 replace HT := Lib.hid (HT.out.on hr hm)
 clear hr hm hg
 rw [after_here] at HT HD
 go_wp2_with fail
 refine (take_no r i false ⟨#[117, 115, 101]⟩ _ HT.out.rr HE.out HK.out (by decide) (known_of (by decide)) n0).mono ?_
 rintro e u0 ⟨rfl, hr, hm⟩
 replace HT := Lib.hid (HT.out.on hr hm)
 clear hr hm n0
 go_wp2_with fail
 refine (take_no r i false ⟨#[112, 117, 98]⟩ _ HT.out.rr HE.out HK.out (by decide) (known_of (by decide)) n1).mono ?_
 rintro e u1 ⟨rfl, hr, hm⟩
 replace HT := Lib.hid (HT.out.on hr hm)
 clear hr hm n1
 go_wp2_with fail
 refine (take_no r i false ⟨#[99, 111, 110, 115, 116]⟩ _ HT.out.rr HE.out HK.out (by decide) (known_of (by decide)) n2).mono ?_
 rintro e u2 ⟨rfl, hr, hm⟩
 replace HT := Lib.hid (HT.out.on hr hm)
 clear hr hm n2
 go_wp2_with fail
 refine (take_no r i false ⟨#[102, 110]⟩ _ HT.out.rr HE.out HK.out (by decide) (known_of (by decide)) n3).mono ?_
 rintro e u3 ⟨rfl, hr, hm⟩
 replace HT := Lib.hid (HT.out.on hr hm)
 clear hr hm n3
 go_wp2_with fail
 refine (take_no r i false ⟨#[116, 121, 112, 101]⟩ _ HT.out.rr HE.out HK.out (by decide) (known_of (by decide)) n4).mono ?_
 rintro e u4 ⟨rfl, hr, hm⟩
 replace HT := Lib.hid (HT.out.on hr hm)
 clear hr hm n4
 go_wp2_with fail
 refine (take_yes r i false ⟨#[116, 114, 97, 105, 116]⟩ _ HT.out.rr HE.out HK.out (by decide) (known_of (by decide)) hk).mono ?_
 rintro e w3 ⟨rfl, hr, hm⟩
 replace HT := Lib.hid (HT.out.on hr hm)
 replace HD := Lib.hid ((HD.out.step (Got.unit _ _)).at_ (after_ok (nd_yes hk)))
 clear hr hm hk
 go_wp2_with fail
 refine (name_r r _ false _ HT.out.rr HE.out).mono ?_
 rintro e w4 ⟨nm, rfl, hr, hm, hg⟩
 replace HD := Lib.hid (HD.out.step hg)
 replace HT := Lib.hid (HT.out.on hr hm)
 clear hr hm hg
 go_wp2_with fail
 refine (here_r r _ false _ HT.out.rr).mono ?_
 rintro e w5 ⟨a2, rfl, hr, hm, hg⟩
 replace HD := Lib.hid (HD.out.step hg)
 replace HT := Lib.hid (HT.out.on hr hm)
 clear hr hm hg
 go_wp2_with fail
 refine (leaf_r 14 ⟨#[]⟩ a2 none 0 0 _ HT.out.rr).mono ?_
 rintro e w6 ⟨rfl, hr, hm⟩
 replace HT := Lib.hid (HT.out.on hr hm)
 clear hr hm
 unfold ndC
 go_wp2_with fail
 have HB := Lib.hid (KBox.first 14 ⟨#[]⟩ a2 HT.out)
 have hbx := boxB w6 (.cells (ndC ⟨14, ⟨#[]⟩, a2, none, 0, 0⟩) 40)
 replace HT := Lib.hid (HT.out.on (HT.out.rr.below hbx) (Mv.of_below hbx))
 clear hbx
 unfold ndC at HB HT
 obtain ⟨g, hg⟩ : ∃ g, w6.heap.size = g := ⟨_, rfl⟩
 rw [hg] at HB ⊢
 generalize w6.alloc (.cells #[.int .i64 14, .string ⟨#[]⟩, .int .i64 a2, .slice none 0 0] 40) = w8 at *
 clear hg
 generalize after (hereM r) _ = σ8 at HT HD
 replace HD : Hid (Due P (.ok i) (bindM (tookM r ⟨#[58]⟩) fun b => match b with | false => (fun u => bindM (needM r ⟨#[123]⟩) fun _ => allK r ⟨#[125]⟩ (sigK r T) (fun l => ndM 6 nm a l) (r.L.length + 1) [u]) (.mk 14 ⟨#[]⟩ a2 []) | true => bindM (hereM r) fun a3 => supK r (fun u => bindM (needM r ⟨#[123]⟩) fun _ => allK r ⟨#[125]⟩ (sigK r T) (fun l => ndM 6 nm a l) (r.L.length + 1) [u]) a3 (r.L.length + 1) []) σ8) := HD
 refine (take_r r _ false ⟨#[58]⟩ _ HT.out.rr HE.out HK.out (by decide) (known_of (by decide))).mono ?_
 rintro e w9 ⟨b, rfl, hr, hm, hg, hz⟩
 have HTK := Lib.hid hg
 replace HD := Lib.hid (HD.out.step hg)
 replace HT := Lib.hid (HT.out.on hr hm)
 replace HB := Lib.hid (HB.out.on hm)
 clear hr hm hg
 cases b
 ·clear hz HTK
  replace HD := Lib.hid (HD.out.to (Q' := (fun u => bindM (needM r ⟨#[123]⟩) fun _ => allK r ⟨#[125]⟩ (sigK r T) (fun l => ndM 6 nm a l) (r.L.length + 1) [u]) (.mk 14 ⟨#[]⟩ a2 [])) rfl)
  obtain ⟨t9, ht9⟩ : ∃ t9, t9 = Tree.mk 14 ⟨#[]⟩ a2 [] := ⟨_, rfl⟩
  obtain ⟨q9, hq9⟩ : ∃ q9 : Raw, q9 = ⟨14, ⟨#[]⟩, a2, none, 0, 0⟩ := ⟨_, rfl⟩
  rw [← ht9, ← hq9] at HB
  rw [← ht9] at HD
  have HK9 : Hid (t9 = t9) := rfl
  clear ht9 hq9
  obtain ⟨b0, b1, b2, b3⟩ := HB.out.box.cells
  have hnf := Nodes.first (B := w.heap.size + 1) (w := w9) (q := q9) HB.out.tree (by have := HT.out.up; omega)
  have hbx := boxB w9 (.cells #[.int .i64 q9.kind, .string q9.text, .int .i64 q9.at_, .slice q9.p q9.n q9.cap] 40)
  have HT2 := Lib.hid (HT.out.on (HT.out.rr.below hbx) (Mv.of_below hbx))
  have HN := Lib.hid hnf
  unfold ndC at HN
  clear hnf hbx
  go_wp2_with fail
  clear b0 b1 b2 b3 HB HT
  have HT := HT2
  clear HT2
  obtain ⟨g6, hg6⟩ : ∃ g6, w9.heap.size = g6 := ⟨_, rfl⟩
  rw [hg6] at HN ⊢
  generalize w9.alloc (.cells #[.int .i64 q9.kind, .string q9.text, .int .i64 q9.at_, .slice q9.p q9.n q9.cap] 40) = w30 at *
  clear hg6
  refine (leaf_r 6 nm a (some ⟨g6, 0, none⟩) 1 1 _ HT.out.rr).mono ?_
  rintro e w31 ⟨rfl, hr, hm⟩
  replace HT := Lib.hid (HT.out.on hr hm)
  replace HN := Lib.hid (HN.out.mv hm (by have := HT.out.rb; omega))
  clear hr hm
  unfold ndC
  go_wp2_with fail
  have HB := Lib.hid (KB2.first 6 nm a HT.out HN.out)
  have hbx := boxB w31 (.cells (ndC ⟨6, nm, a, some ⟨g6, 0, none⟩, 1, 1⟩) 40)
  replace HT := Lib.hid (HT.out.on (HT.out.rr.below hbx) (Mv.of_below hbx))
  clear hbx HN
  unfold ndC at HB HT
  obtain ⟨g, hg⟩ : ∃ g, w31.heap.size = g := ⟨_, rfl⟩
  rw [hg] at HB ⊢
  generalize w31.alloc (.cells #[.int .i64 6, .string nm, .int .i64 a, .slice (some ⟨g6, 0, none⟩) 1 1] 40) = w32 at *
  clear hg
  replace HD := Lib.hid (HD.out.to (Q' := bindM (needM r ⟨#[123]⟩) fun _ => allK r ⟨#[125]⟩ (sigK r T) (fun l => ndM 6 nm a l) (r.L.length + 1) [t9]) (by first | rfl | (have h := HK9.out; rw [h]; rfl)))
  refine (need_r r _ false ⟨#[123]⟩ _ HT.out.rr HE.out HK.out (by decide) (known_of (by decide))).mono ?_
  rintro e w33 ⟨rfl, hr, hm⟩
  replace HD := Lib.hid (HD.out.step (Got.unit _ _))
  replace HT := Lib.hid (HT.out.on hr hm)
  replace HB := Lib.hid (HB.out.on hm)
  clear hr hm
  generalize after (needM r _) _ = σ33 at HT HD
  have hin := HT.out.rr.in2
  obtain ⟨aa, bb, hin⟩ := hin
  obtain ⟨c0, c1, c2, c3, fz⟩ := hin.c
  have HT3 := Lib.hid (HT.out.flag true)
  have HB3 := Lib.hid (HB.out.on (But.setCell w33 ⟨r.b, 3, none⟩ (.bool true) rfl : Mv r w33 _))
  clear hin HT HB
  go_wp2_with fail
  clear c0 c1 c2 c3 fz aa bb
  have HT := HT3
  have HB := HB3
  clear HT3 HB3
  generalize w33.setCell ⟨r.b, 3, none⟩ (.bool true) = w34 at *
  go_loopw [15, 16, 17] (fun _x15 _x16 _x17 wr => ∃ (f : Nat) (q : Raw) (t : Tree) (σ9 : Except Nat Nat), Hid (St r w σ9 true wr) ∧ Hid (KB2 r w g q t wr) ∧ Hid (Due P (.ok i) (allK r ⟨#[125]⟩ (sigK r T) (fun l => ndM 6 nm a l) f t.kids) σ9) ∧ Hid (t = .mk 6 nm a t.kids) ∧ t.kids.length + f = r.L.length + 2 ∧ ∀ i, σ9 = .ok i → r.L.length ≤ f + i) (fun _x15 _x16 _x17 wr => roomOf r wr)
  case atStart => exact ⟨r.L.length + 1, _, .mk 6 nm a [t9], _, HT.out, HB.out, HD.out, rfl, by simp only [Tree.kids, List.length_cons, List.length_nil]; omega, fun i e => by omega⟩
  case round =>
   clear HT HB HD
   obtain ⟨f, q, t, σ9, HT, HB, HD, HKT, hf, HI0⟩ := hrel
   have HRM := Lib.hid (roomOf_eq HT.out.rr)
   have hfew := HT.out.rr.few
   go_wp2_with fail
   refine (ok_r r _ true _ HT.out.rr).mono ?_
   rintro e w7 ⟨b, rfl, rfl, hb⟩
   rcases hb with ⟨rfl, i9, rfl⟩ | ⟨rfl, k, rfl⟩
   rotate_left
   ·clear HI0 HRM
    have hin := HT.out.rr.in2
    obtain ⟨aa, bb, hin⟩ := hin
    obtain ⟨c0, c1, c2, c3, fz⟩ := hin.c
    have HB3 := Lib.hid (HB.out.on (But.setCell w7 ⟨r.b, 3, none⟩ (.bool false) rfl : Mv r w7 _))
    replace HT := Lib.hid (HT.out.flag false)
    clear hin HB
    have HB := HB3
    clear HB3
    obtain ⟨b0, b1, b2, b3⟩ := HB.out.box.cells
    have HW := Lib.hid (HT.out.ret (q := q) (HB.out.tree))
    obtain ⟨d0, d1, d2, d3, f0⟩ := HT.out.res.cells
    try unfold ndC
    go_wp2_with fail
    obtain ⟨hcell, hist, hrr, hmv⟩ := HW.out
    exact bodyPost_ret (results_cellT rfl _ _ _ ⟨w.heap.size, 0, none⟩ _ rfl (load_node _ _ q hcell)) rfl (HD.out.postE hist hrr hmv)
   have hfi := HI0 i9 rfl
   have hlt := HT.out.rr.lt
   obtain ⟨f', rfl⟩ : ∃ f', f = f' + 1 := ⟨f - 1, by omega⟩
   clear HI0
   replace HD : Hid (Due P (.ok i) (allT r ⟨#[125]⟩ (sigK r T) (fun l => ndM 6 nm a l) f' t.kids) (.ok i9)) := HD
   go_wp2_with fail
   refine (take_r r _ true ⟨#[125]⟩ _ HT.out.rr HE.out HK.out (by decide) (known_of (by decide))).mono ?_
   rintro e w38 ⟨b, rfl, hr, hm, hg, hz⟩
   have HTK := Lib.hid hg
   replace HD := Lib.hid (HD.out.step hg)
   replace HT := Lib.hid (HT.out.on hr hm)
   replace HB := Lib.hid (HB.out.on hm)
   clear hr hm hg
   cases b
   rotate_left
   ·obtain ⟨i0, hi0, ha0⟩ := took_true HTK.out hz
    cases hi0
    rw [ha0] at HT HD
    clear HTK hz ha0 HRM
    replace HD := Lib.hid (HD.out.to (Q' := pureM t) (by have h := HKT.out; exact congrArg pureM h.symm))
    have hin := HT.out.rr.in2
    obtain ⟨aa, bb, hin⟩ := hin
    obtain ⟨c0, c1, c2, c3, fz⟩ := hin.c
    have HB3 := Lib.hid (HB.out.on (But.setCell w38 ⟨r.b, 3, none⟩ (.bool false) rfl : Mv r w38 _))
    replace HT := Lib.hid (HT.out.flag false)
    clear hin HB
    have HB := HB3
    clear HB3
    obtain ⟨b0, b1, b2, b3⟩ := HB.out.box.cells
    have HW := Lib.hid (HT.out.ret (q := q) (HB.out.tree))
    obtain ⟨d0, d1, d2, d3, f0⟩ := HT.out.res.cells
    try unfold ndC
    go_wp2_with fail
    obtain ⟨hcell, hist, hrr, hmv⟩ := HW.out
    exact bodyPost_ret (results_cellT rfl _ _ _ ⟨w.heap.size, 0, none⟩ _ rfl (load_node _ _ q hcell)) rfl (HD.out.postP hist hrr hmv)
   have hnt : ¬ isMark r i9 ⟨#[125]⟩ = true := fun hm => by have := HTK.out i9 true (i9 + 1) rfl (tk_yes hm); cases this
   rw [after_ok (tk_no hnt)] at HT HD
   clear HTK hz hnt
   replace HD : Hid (Due P (.ok i) (bindM (hereM r) fun af => bindM (needM r ⟨#[102, 110]⟩) fun _ => bindM (nameM r) fun n9 => bindM (needM r ⟨#[40]⟩) fun _ => bindM (argsR r ⟨#[41]⟩ T) fun q => bindM (resultR r T) fun o => bindM (needM r ⟨#[59]⟩) fun _ => allK r ⟨#[125]⟩ (sigK r T) (fun l => ndM 6 nm a l) f' (t.kids ++ [.mk 9 n9 af [q, o]])) (.ok i9)) := HD
   have HOW : Hid (∀ b, (Value.slice q.p q.n q.cap).ownBlock = some b → b < w38.heap.size ∧ r.b < b ∧ b ≠ g ∧ w.heap.size < b) := fun b e => by have := HB.out.own b e; exact ⟨this.2.1, this.1, this.2.2.1, this.2.2.2⟩
   have HGN : Hid (g < w38.heap.size) := lt_heap HB.out.box.z
   obtain ⟨N0, hN0⟩ : ∃ N0, w38.heap.size = N0 := ⟨_, rfl⟩
   rw [hN0] at HOW HGN
   have HN0 : Hid (N0 ≤ w38.heap.size) := Nat.le_of_eq hN0.symm
   clear hN0
   go_wp2_with fail
   refine (here_r r _ true _ HT.out.rr).mono ?_
   rintro e w39 ⟨af, rfl, hr, hm, hg⟩
   replace HD := Lib.hid (HD.out.step hg)
   replace HN0 : Hid (N0 ≤ _) := Nat.le_trans HN0.out hm.size
   replace HT := Lib.hid (HT.out.on hr hm)
   replace HB := Lib.hid (HB.out.on hm)
   clear hr hm hg
   go_wp2_with fail
   refine (need_r r _ true ⟨#[102, 110]⟩ _ HT.out.rr HE.out HK.out (by decide) (known_of (by decide))).mono ?_
   rintro e w40 ⟨rfl, hr, hm⟩
   replace HD := Lib.hid (HD.out.step (Got.unit _ _))
   replace HN0 : Hid (N0 ≤ _) := Nat.le_trans HN0.out hm.size
   replace HT := Lib.hid (HT.out.on hr hm)
   replace HB := Lib.hid (HB.out.on hm)
   clear hr hm
   have HG0 : Hid (Geq (i9 + 1) (after (needM r ⟨#[102, 110]⟩) (after (hereM r) (.ok i9)))) := fun j e => by rw [after_here] at e; exact (ups_need r _).after e
   generalize (after (needM r ⟨#[102, 110]⟩) (after (hereM r) (.ok i9))) = σ10 at HT HD HG0
   go_wp2_with fail
   refine (name_r r _ true _ HT.out.rr HE.out).mono ?_
   rintro e w42 ⟨n9, rfl, hr, hm, hg⟩
   replace HD := Lib.hid (HD.out.step hg)
   replace HN0 : Hid (N0 ≤ _) := Nat.le_trans HN0.out hm.size
   replace HT := Lib.hid (HT.out.on hr hm)
   replace HB := Lib.hid (HB.out.on hm)
   clear hr hm hg
   go_wp2_with fail
   refine (need_r r _ true ⟨#[40]⟩ _ HT.out.rr HE.out HK.out (by decide) (known_of (by decide))).mono ?_
   rintro e w43 ⟨rfl, hr, hm⟩
   replace HD := Lib.hid (HD.out.step (Got.unit _ _))
   replace HN0 : Hid (N0 ≤ _) := Nat.le_trans HN0.out hm.size
   replace HT := Lib.hid (HT.out.on hr hm)
   replace HB := Lib.hid (HB.out.on hm)
   clear hr hm
   replace HG0 : Hid (Geq (i9 + 1) (after (needM r ⟨#[40]⟩) (after (nameM r) σ10))) := (HG0.out.after (ups_name r).up).after (ups_need r _).up
   generalize after (needM r ⟨#[40]⟩) (after (nameM r) σ10) = σ11 at HT HD HG0
   go_wp2_with fail
   refine (rArgs_any r _ true T ⟨#[41]⟩ ⟨by decide, known_of (by decide)⟩ HUP.out _ HT.out.rr HE.out HK.out HTY.out).mono ?_
   rintro e w44 ⟨q1, t1, rfl, ht, hr, hm, hg⟩
   have HI := Lib.hid (ht.mono (A' := fun b => N0 ≤ b) (fun b hb => Nat.le_trans HN0.out hb))
   replace HD := Lib.hid (HD.out.step hg)
   replace HN0 : Hid (N0 ≤ _) := Nat.le_trans HN0.out hm.size
   replace HT := Lib.hid (HT.out.on hr hm)
   replace HB := Lib.hid (HB.out.on hm)
   clear hr hm hg ht
   replace HG0 : Hid (Geq (i9 + 1) (after (argsR r ⟨#[41]⟩ T) σ11)) := HG0.out.after (up_argsR r _ T HUP.out)
   generalize after (argsR r ⟨#[41]⟩ T) σ11 = σ12 at HT HD HG0
   have HG3 : Hid (N0 ≤ w44.heap.size) := HN0
   have HV := Lib.hid (VarD.first HT.out HI.out)
   have hbx := boxB w44 (.cells (ndC q1) 40)
   replace HN0 : Hid (N0 ≤ _) := Nat.le_trans HN0.out hbx.size
   replace HT := Lib.hid (HT.out.on (HT.out.rr.below hbx) (Mv.of_below hbx))
   replace HB := Lib.hid (HB.out.on (Mv.of_below hbx))
   clear hbx HI
   unfold ndC at HV HT HB HN0
   unfold ndC
   go_wp2_with fail
   obtain ⟨g3, hg3⟩ : ∃ g3, w44.heap.size = g3 := ⟨_, rfl⟩
   rw [hg3] at HV HG3 ⊢
   generalize w44.alloc (.cells #[.int .i64 q1.kind, .string q1.text, .int .i64 q1.at_, .slice q1.p q1.n q1.cap] 40) = w45 at *
   clear hg3
   have HOG : Hid ((Value.slice q.p q.n q.cap).ownBlock ≠ some g) := fun e => (HB.out.own g e).2.2.1 rfl
   have HO : Hid (∀ b, (Value.slice q.p q.n q.cap).ownBlock = some b → r.b < b ∧ b < w45.heap.size ∧ b ≠ g ∧ w.heap.size < b) := HB.out.own
   have HRW : Hid (r.b < w45.heap.size) := HT.out.rr.rb
   have HGL : Hid (g < w45.heap.size ∧ w.heap.size < g ∧ r.b < w.heap.size) := ⟨lt_heap HB.out.box.z, HB.out.box.new, HB.out.box.old⟩
   apply wp_region_many 12 (Sx r (Value.slice q.p q.n q.cap).ownBlock 6 10) (InvX r w (Value.slice q.p q.n q.cap).ownBlock w45) (F02 r σ12 true (w.heap.size + 1) g (.slice q.p q.n q.cap) t.kids 6 10)
   case hIS => exact fun i x y hs hi => hi.step i hs (fun b e => Nat.le_of_lt (HO.out b e).2.2.2)
   case hk0 => exact F02.keeps (by have := HGL.out; omega) (fun b e => by have := HO.out b e; omega)
   case hm => kernel_rfl
   case hB => kernel_rfl
   case h0 => exact InvX.start HT.out.mv
   case h1 => exact F02.start HT.out.rr HB.out.nodes
   simp only [List.take_succ_cons, List.take_zero, List.drop_succ_cons, List.drop_zero]
   apply wpMany_cons (t := tvIs (.pointer (some ⟨g, 3, none⟩))) (tvIs_goodS _ _)
   case h1 =>
    intro W hI hl
    unfold oneAt
    go_simp
    exact sx_is (by decide) (by decide)
   intro _
   rw [tvIs_f]
   go_simp
   apply wpMany_cons (t := tvIs (.slice q.p q.n q.cap)) (tvIs_goodS _ _)
   case h1 =>
    intro W hI hl
    obtain ⟨b0, b1, b2, b3⟩ := (hI.box HB.out.box HOG.out).cells
    unfold oneAt
    go_simp
    exact sx_is (by decide) (by decide)
   intro _
   rw [tvIs_f]
   go_simp
   apply wpMany_cons (t := tvIs (.string n9)) (tvIs_goodS _ _)
   case h1 =>
    intro W hI hl
    unfold oneAt
    go_simp
    exact sx_is (by decide) (by decide)
   intro _
   rw [tvIs_f]
   go_simp
   apply wpMany_cons (t := tvIs (.int .i64 af)) (tvIs_goodS _ _)
   case h1 =>
    intro W hI hl
    unfold oneAt
    go_simp
    exact sx_is (by decide) (by decide)
   intro _
   rw [tvIs_f]
   go_simp
   apply wpMany_cons (t := tvIs (.agg #[.int .i64 q1.kind, .string q1.text, .int .i64 q1.at_, .slice q1.p q1.n q1.cap])) (tvIs_goodS _ _)
   case h1 =>
    intro W hI hl
    obtain ⟨b0, b1, b2, b3⟩ := (hI.box HV.out.box (fun e => by have := (HOW.out g3 e).1; have := HG3.out; omega)).cells
    unfold oneAt
    go_simp
    exact sx_is (by decide) (by decide)
   intro _
   rw [tvIs_f]
   go_simp
   apply wpMany_cons (t := tvIs (.pointer (some ⟨r.b, 0, none⟩))) (tvIs_goodS _ _)
   case h1 =>
    intro W hI hl
    unfold oneAt
    go_simp
    exact sx_is (by decide) (by decide)
   intro _
   rw [tvIs_f]
   go_simp
   apply wpMany_cons (t := tyCall r w45 (resultR r T) σ12 true) (tyCall_good HRW.out (fun b e => by have := HO.out b e; omega))
   case h1 =>
    intro W hI hl
    have hr : RrAt r σ12 true W := hl.1.1 rfl
    unfold oneAt
    go_simp
    exact sx_call hI (rResult_any r _ true T _ hr HE.out HK.out HTY.out)
   rintro ⟨q5, t5⟩
   rw [tyCall_f]
   unfold ndC
   go_simp
   apply wpMany_cons (t := tyRowA (fun b => N0 ≤ b) 2 (fun l => ∃ e, l = [t1, e] ∧ Got (resultR r T) σ12 e)) (tyRowA_good (fun b hb => ⟨by have := HGL.out; have := HGN.out; omega, fun e => by have := (HOW.out b e).1; omega⟩))
   case h1 =>
    intro W hI hl
    have h5 : IsT (fun b => w45.heap.size ≤ b) W q5 t5 ∧ RrAt r (after (resultR r T) σ12) true W ∧ Got (resultR r T) σ12 t5 := hl.2 ⟨6, .data⟩ (by simp) rfl
    have hvt := hI.tree HV.out.tree (fun b hb => ⟨by have := HGL.out; have := HGN.out; omega, fun e => by have := (HOW.out b e).1; omega⟩)
    unfold oneAt
    go_simp
    exact sx_rowA [q1, q5] [t1, t5] hI (fun b hb => Nat.le_trans HN0.out hb) (by decide) (by decide) rfl rfl rfl (by decide) (by decide) (fun i a b => match i, a, b with | 0, _, _ => hvt | 1, _, _ => h5.1.mono (fun b hb => Nat.le_trans HN0.out hb) | i + 2, c, _ => absurd c (by simp)) (⟨t5, rfl, h5.2.2⟩)
   rintro ⟨g6, l6⟩
   rw [tyRowA_f]
   go_simp
   apply wpMany_cons (t := tyNodeA (fun b => N0 ≤ b) (fun u => ∃ e, u = Tree.mk 9 n9 af [t1, e] ∧ Got (resultR r T) σ12 e)) (tyNodeA_good (fun b hb => ⟨by have := HGL.out; have := HGN.out; omega, fun e => by have := (HOW.out b e).1; omega⟩))
   case h1 =>
    intro W hI hl
    have h6 : IsTs (fun b => N0 ≤ b) W (.slice (some ⟨g6, 0, none⟩) 2 2) l6 ∧ ∃ e, l6 = [t1, e] ∧ Got (resultR r T) σ12 e := hl.2 ⟨7, .data⟩ (by simp) rfl
    unfold oneAt
    go_simp
    exact sx_nodeA hI (by decide) (by decide) (h6.1) (by obtain ⟨e, he, hg⟩ := h6.2; exact ⟨e, by rw [he], hg⟩) (rLeaf_any (9) (n9) (af) (some ⟨g6, 0, none⟩) 2 2 W)
   rintro ⟨q7, t7⟩
   rw [tyNodeA_f]
   unfold ndC
   go_simp
   apply wpMany_cons (t := tyRowA (fun b => N0 ≤ b) 1 (fun l => ∃ e, l = [Tree.mk 9 n9 af [t1, e]] ∧ Got (resultR r T) σ12 e)) (tyRowA_good (fun b hb => ⟨by have := HGL.out; have := HGN.out; omega, fun e => by have := (HOW.out b e).1; omega⟩))
   case h1 =>
    intro W hI hl
    have h7 : IsT (fun b => N0 ≤ b) W q7 t7 ∧ ∃ e, t7 = Tree.mk 9 n9 af [t1, e] ∧ Got (resultR r T) σ12 e := hl.2 ⟨8, .data⟩ (by simp) rfl
    unfold oneAt
    go_simp
    exact sx_rowA [q7] [t7] hI (fun b hb => Nat.le_trans HN0.out hb) (by decide) (by decide) rfl rfl rfl (by decide) (by decide) (fun i a b => match i, a, b with | 0, _, _ => h7.1 | i + 1, c, _ => absurd c (by simp)) (by obtain ⟨e, he, hg⟩ := h7.2; exact ⟨e, by rw [he], hg⟩)
   rintro ⟨g8, l8⟩
   rw [tyRowA_f]
   go_simp
   apply wpMany_cons (t := tyList2 (w.heap.size + 1) g (Value.slice q.p q.n q.cap).ownBlock w45 (fun l => ∃ e, l = t.kids ++ [Tree.mk 9 n9 af [t1, e]] ∧ Got (resultR r T) σ12 e)) (tyList2_good (by have := HGL.out; omega))
   case h1 =>
    intro W hI hl
    have hN : Nodes2 (w.heap.size + 1) g W (.slice q.p q.n q.cap) t.kids := hl.1.2 rfl
    have h8 : IsTs (fun b => N0 ≤ b) W (.slice (some ⟨g8, 0, none⟩) 1 1) l8 ∧ ∃ e, l8 = [Tree.mk 9 n9 af [t1, e]] ∧ Got (resultR r T) σ12 e := hl.2 ⟨9, .data⟩ (by simp) rfl
    exact sx_push2 rfl (.tmp 149) (.tmp 157) rfl rfl rfl hI (by decide) hN (by have := HGL.out; omega) HGL.out.1 (fun b e => (HO.out b e).2.1) (A := (fun b => N0 ≤ b)) (fun b hb => ⟨⟨by have := HGL.out; have := HGN.out; omega, by have := HGN.out; omega⟩, fun e => by have := (HOW.out b e).1; omega⟩) (h8.1) (by omega) (by obtain ⟨e, he, hg⟩ := h8.2; exact ⟨e, by rw [he], hg⟩)
   rintro ⟨v7, l7⟩
   rw [tyList2_f]
   go_simp
   apply wpMany_cons (t := tvIs (.pointer (some ⟨g, 3, none⟩))) (tvIs_goodS _ _)
   case h1 =>
    intro W hI hl
    unfold oneAt
    go_simp
    exact sx_is (by decide) (by decide)
   intro _
   rw [tvIs_f]
   go_simp
   apply wpMany_nil (Ts := [])
   intro w60 hI hFa
   have h5 : IsT (fun b => w45.heap.size ≤ b) w60 q5 t5 ∧ RrAt r (after (resultR r T) σ12) true w60 ∧ Got (resultR r T) σ12 t5 := hFa 6
   have hrr := h5.2.1
   have h7 : Nodes2 (w.heap.size + 1) g w60 v7 l7 ∧ (∃ e, l7 = t.kids ++ [Tree.mk 9 n9 af [t1, e]] ∧ Got (resultR r T) σ12 e) ∧ _ := hFa 10
   obtain ⟨h7, ⟨t6, rfl, hg6⟩, -⟩ := h7
   obtain ⟨p7, c7, rfl, -, -⟩ := h7.base.slice
   obtain ⟨n7, e7⟩ : ∃ n7, (t.kids ++ [Tree.mk 9 n9 af [t1, t6]]).length = n7 := ⟨_, rfl⟩
   rw [e7] at h7 ⊢
   clear e7
   replace HD := Lib.hid (HD.out.step hg6)
   have HBX := Lib.hid (hI.box HB.out.box HOG.out)
   replace HB := Lib.hid (HB.out.store HBX.out h7)
   replace HT := Lib.hid ((hI.st HT.out hrr (fun b e => (HO.out b e).2.2.2)).poke g 3 (.slice p7 n7 c7) HBX.out.new)
   have HK7 : Hid (Tree.mk t.kind t.text t.at_ (t.kids ++ [Tree.mk 9 n9 af [t1, t6]]) = .mk 6 nm a (t.kids ++ [Tree.mk 9 n9 af [t1, t6]])) := by show _ = _; rw [HKT.out]; rfl
   obtain ⟨b0, b1, b2, b3⟩ := HBX.out.cells
   have fz := HBX.out.warm'
   have hf8 : (t.kids ++ [Tree.mk 9 n9 af [t1, t6]]).length + f' = r.L.length + 2 := by rw [List.length_append]; simp only [List.length_cons, List.length_nil]; omega
   clear hI hFa h5 h7 hrr HO HRW HGL HOG HKT
   go_wp2_with fail
   clear b0 b1 b2 b3 fz HBX
   generalize w60.setCell ⟨g, 3, none⟩ (.slice p7 n7 c7) = w41 at *
   obtain ⟨q8, hq8⟩ : ∃ q8 : Raw, q8 = ⟨q.kind, q.text, q.at_, p7, n7, c7⟩ := ⟨_, rfl⟩
   obtain ⟨t8, ht8⟩ : ∃ t8, t8 = Tree.mk t.kind t.text t.at_ (t.kids ++ [Tree.mk 9 n9 af [t1, t6]]) := ⟨_, rfl⟩
   have hk8 : t8.kids = t.kids ++ [Tree.mk 9 n9 af [t1, t6]] := by rw [ht8]; rfl
   rw [← hq8, ← ht8] at HB
   rw [← ht8, ← hk8] at HK7
   rw [← hk8] at hf8
   clear hq8 ht8
   replace HG0 : Hid (Geq (i9 + 1) (after (resultR r T) σ12)) := HG0.out.after (up_resultR r T HUP.out)
   generalize after (resultR r T) σ12 = σ13 at HT HD HG0
   refine (need_r r _ true ⟨#[59]⟩ _ HT.out.rr HE.out HK.out (by decide) (known_of (by decide))).mono ?_
   rintro e w61 ⟨rfl, hr, hm⟩
   replace HD := Lib.hid (HD.out.step (Got.unit _ _))
   replace HT := Lib.hid (HT.out.on hr hm)
   replace HB := Lib.hid (HB.out.on hm)
   clear hr hm
   replace HD : Hid (Due P (.ok i) (allK r ⟨#[125]⟩ (sigK r T) (fun l => ndM 6 nm a l) f' t8.kids) (after (needM r ⟨#[59]⟩) σ13)) := by rw [hk8]; exact HD
   have HGE : Hid (Geq (i9 + 1) (after (needM r ⟨#[59]⟩) σ13)) := HG0.out.after (ups_need r _).up
   generalize (after (needM r ⟨#[59]⟩) σ13) = σ42 at HT HD HGE
   have hrm := roomOf_eq HT.out.rr
   go_wp2_with fail
   go_roundw
   case rel => exact ⟨f', q8, t8, σ42, HT.out, HB.out, HD.out, HK7.out, hf8, fun i e => by have := HGE.out i e; omega⟩
   case measure =>
    rw [hrm, HRM.out]
    cases σ42 with
    | ok j => have := HGE.out j rfl; have := HT.out.rr.lt; simp only [room]; omega
    | error k => simp only [room]; omega
 ·obtain ⟨i0, hi0, ha0⟩ := took_true HTK.out hz
  subst hi0
  rw [ha0] at HT HD
  clear HTK hz ha0
  go_wp2_with fail
  refine (here_r r _ false _ HT.out.rr).mono ?_
  rintro e w10 ⟨a3, rfl, hr, hm, hg⟩
  replace HD := Lib.hid (HD.out.step hg)
  replace HT := Lib.hid (HT.out.on hr hm)
  replace HB := Lib.hid (HB.out.on hm)
  clear hr hm hg
  rw [after_here] at HT HD
  obtain ⟨b0, b1, b2, b3⟩ := HB.out.box.cells
  have fz := HB.out.box.warm'
  replace HT := Lib.hid (HT.out.poke g 2 (.int .i64 a3) HB.out.box.new)
  replace HB := Lib.hid (HB.out.place a3)
  replace HD : Hid (Due P (.ok i) (namesK r ⟨#[43]⟩ (fun ts => (fun u => bindM (needM r ⟨#[123]⟩) fun _ => allK r ⟨#[125]⟩ (sigK r T) (fun l => ndM 6 nm a l) (r.L.length + 1) [u]) (.mk 14 ⟨#[]⟩ a3 ts)) (r.L.length + 1) []) (.ok (i0 + 1))) := HD
  go_wp2_with fail
  clear b0 b1 b2 b3 fz
  generalize w10.setCell ⟨g, 2, none⟩ (.int .i64 a3) = w11 at *
  go_loopw [13] (fun x wr => ∃ (f : Nat) (q : Raw) (t : Tree) (σ9 : Except Nat Nat), Hid (St r w σ9 false wr) ∧ Hid (KBox r w g q t wr) ∧ Hid (Due P (.ok i) (namesK r ⟨#[43]⟩ (fun ts => (fun u => bindM (needM r ⟨#[123]⟩) fun _ => allK r ⟨#[125]⟩ (sigK r T) (fun l => ndM 6 nm a l) (r.L.length + 1) [u]) (.mk 14 ⟨#[]⟩ a3 ts)) f t.kids) σ9) ∧ Hid (t = .mk 14 ⟨#[]⟩ a3 t.kids) ∧ t.kids.length + f = r.L.length + 1 ∧ 1 ≤ f ∧ ∀ i, σ9 = .ok i → r.L.length ≤ f + i) (fun _ wr => roomOf r wr)
  case atStart => exact ⟨r.L.length + 1, _, .mk 14 ⟨#[]⟩ a3 [], .ok (i0 + 1), HT.out, HB.out, HD.out, rfl, by simp [Tree.kids], by omega, fun i e => by omega⟩
  case round =>
   clear HT HB HD
   obtain ⟨f, q, t, σ9, HT, HB, HD, HKT, hf, hf1, hfi⟩ := hrel
   have HRM := Lib.hid (roomOf_eq HT.out.rr)
   have hfew := HT.out.rr.few
   obtain ⟨f', rfl⟩ : ∃ f', f = f' + 1 := ⟨f - 1, by omega⟩
   have HG9 : Hid (∀ j, after (nameM r) (after (hereM r) σ9) = .ok j → r.L.length ≤ f' + j ∧ room r (.ok j) < room r σ9) := by
    intro j e
    rw [after_here] at e
    cases σ9 with
    | error k => cases e
    | ok m =>
     have h1 := (ups_name r).after e
     have h2 := hfi m rfl
     have h3 := HT.out.rr.lt
     refine ⟨by omega, ?_⟩
     simp only [room]
     omega
   clear hfi hf1
   replace HD : Hid (Due P (.ok i) (namesN r ⟨#[43]⟩ (fun ts => (fun u => bindM (needM r ⟨#[123]⟩) fun _ => allK r ⟨#[125]⟩ (sigK r T) (fun l => ndM 6 nm a l) (r.L.length + 1) [u]) (.mk 14 ⟨#[]⟩ a3 ts)) f' t.kids) σ9) := HD
   go_wp2_with fail
   refine (here_r r _ false _ HT.out.rr).mono ?_
   rintro e w17 ⟨a1, rfl, hr, hm, hg⟩
   replace HD := Lib.hid (HD.out.step hg)
   replace HT := Lib.hid (HT.out.on hr hm)
   replace HB := Lib.hid (HB.out.on hm)
   clear hr hm hg
   go_wp2_with fail
   refine (leaf_r 22 ⟨#[]⟩ a1 none 0 0 _ HT.out.rr).mono ?_
   rintro e w18 ⟨rfl, hr, hm⟩
   replace HT := Lib.hid (HT.out.on hr hm)
   replace HB := Lib.hid (HB.out.on hm)
   clear hr hm
   unfold ndC
   go_wp2_with fail
   have HV := Lib.hid (VarB.first 22 ⟨#[]⟩ a1 HT.out)
   have hbx := boxB w18 (.cells (ndC ⟨22, ⟨#[]⟩, a1, none, 0, 0⟩) 40)
   replace HT := Lib.hid (HT.out.on (HT.out.rr.below hbx) (Mv.of_below hbx))
   obtain ⟨g2, hg2⟩ : ∃ g, w18.heap.size = g := ⟨_, rfl⟩
   have HSK : Hid (Sk2 r g2 w18 (w18.alloc (.cells (ndC ⟨22, ⟨#[]⟩, a1, none, 0, 0⟩) 40))) := But.of_below hbx
   have HG2 := Lib.hid hg2
   have HOW : Hid (∀ b, (Value.slice q.p q.n q.cap).ownBlock = some b → b < g2 ∧ g < b ∧ w.heap.size ≤ b) := fun b e => by have := HB.out.own b e; omega
   have HGG : Hid (g < g2) := by show g < g2; have := lt_heap HB.out.box.z; omega
   clear hbx
   unfold ndC at HV HT HSK 
   rw [hg2] at HV ⊢
   generalize w18.alloc (.cells #[.int .i64 22, .string ⟨#[]⟩, .int .i64 a1, .slice none 0 0] 40) = w19 at *
   clear hg2
   refine (name_r r _ false _ HT.out.rr HE.out).mono ?_
   rintro e w20 ⟨n1, rfl, hr, hm, hg⟩
   replace HD := Lib.hid (HD.out.step hg)
   replace HT := Lib.hid (HT.out.on hr hm)
   replace HV := Lib.hid (HV.out.on hm)
   replace HSK := Lib.hid (HSK.out.on hm)
   clear hr hm hg
   obtain ⟨v0, v1, v2', v3⟩ := HV.out.box.cells
   have fz := HV.out.box.warm'
   replace HT := Lib.hid (HT.out.poke g2 1 (.string n1) HV.out.box.new)
   replace HV := Lib.hid (HV.out.text n1)
   replace HSK := Lib.hid (HSK.out.poke g2 1 (.string n1) (Nat.le_refl _))
   replace HB := Lib.hid (HB.out.sk2 HSK.out HG2.out)
   generalize after (nameM r) (after (hereM r) σ9) = σ8 at HT HD HG9
   have hsz : ((w20.setCell ⟨g2, 1, none⟩ (.string n1))).heap.size = w20.heap.size := by simp [World.setCell]
   obtain ⟨b0, b1, b2, b3⟩ := HB.out.box.cells
   obtain ⟨u0, u1, u2, u3⟩ := HV.out.box.cells
   have hbx := boxB ((w20.setCell ⟨g2, 1, none⟩ (.string n1))) (.cells #[.int .i64 22, .string n1, .int .i64 a1, .slice none 0 0] 40)
   have hnew := heap_alloc_new ((w20.setCell ⟨g2, 1, none⟩ (.string n1))) (.cells #[.int .i64 22, .string n1, .int .i64 a1, .slice none 0 0] 40 (0, 0))
   rw [hsz] at hnew
   have hrow : IsTs (fun b => g2 < b) (((w20.setCell ⟨g2, 1, none⟩ (.string n1))).alloc (.cells #[.int .i64 22, .string n1, .int .i64 a1, .slice none 0 0] 40)) (.slice (some ⟨w20.heap.size, 0, none⟩) 1 1) [.mk 22 n1 a1 []] := IsTs.rowAt _ [⟨22, n1, a1, none, 0, 0⟩] [.mk 22 n1 a1 []] hnew rfl rfl rfl (by decide) (by decide) (by have := lt_heap HV.out.box.z; rw [hsz] at this; omega) (fun i a b => match i, a, b with | 0, _, _ => HV.out.tree.later hbx | i + 1, c, _ => absurd c (by simp))
   have hnn := HB.out.nodes.but0 (But.of_below hbx)
   have HT2 := Lib.hid (HT.out.on (HT.out.rr.below hbx) (Mv.of_below hbx))
   have HB2 := Lib.hid (HB.out.on (Mv.of_below hbx))
   have HSZ := Lib.hid hsz
   try unfold ndC
   go_wp2_with (at_builtin; go_must (refine wpList_pushRr (A := fun b => g2 < b) (B := g + 1) (o := ⟨some 116, _, _, _, _, _⟩) rfl (.tmp 113) (.tmp 115) rfl rfl rfl hnn (by have := lt_heap HB2.out.box.z; omega) (by omega) hrow (fun b hb => ⟨by have := HGG.out; omega, fun e => by have := (HOW.out b e).1; omega⟩) ?_; intro v2 w15 hn2 hg2; have hpu := HB2.out.push HT2.out hn2 hg2; obtain ⟨p7, c7, rfl, -, -⟩ := hn2.slice; obtain ⟨n7, e7⟩ : ∃ n7, (t.kids ++ [(.mk 22 n1 a1 [] : Tree)]).length = n7 := ⟨_, rfl⟩; rw [e7] at hn2 ⊢; clear e7; obtain ⟨bb0, bb1, bb2, bb3⟩ := hpu.1.cells; have ff := hpu.1.warm'))
   replace HT := Lib.hid (hpu.2.poke g 3 (.slice p7 n7 c7) HB2.out.box.new)
   replace HB := Lib.hid (HB2.out.store hpu.1 hn2)
   have HK7 : Hid (Tree.mk t.kind t.text t.at_ (t.kids ++ [.mk 22 n1 a1 []]) = .mk 14 ⟨#[]⟩ a3 (t.kids ++ [.mk 22 n1 a1 []])) := by show _ = _; rw [HKT.out]; rfl
   clear hn2 hg2 hpu bb0 bb1 bb2 bb3 ff hbx hnew hrow hnn HT2 HB2 HSZ hsz b0 b1 b2 b3 u0 u1 u2 u3
   generalize w15.setCell ⟨g, 3, none⟩ (.slice p7 n7 c7) = w16 at *
   obtain ⟨q8, hq8⟩ : ∃ q8 : Raw, q8 = ⟨q.kind, q.text, q.at_, p7, n7, c7⟩ := ⟨_, rfl⟩
   obtain ⟨t8, ht8⟩ : ∃ t8, t8 = Tree.mk t.kind t.text t.at_ (t.kids ++ [.mk 22 n1 a1 []]) := ⟨_, rfl⟩
   have hk8 : t8.kids = t.kids ++ [.mk 22 n1 a1 []] := by rw [ht8]; rfl
   rw [← hq8, ← ht8] at HB
   rw [← ht8, ← hk8] at HK7
   rw [← hk8] at HD
   have hf8 : t8.kids.length + f' = r.L.length + 1 := by rw [hk8, List.length_append]; simp only [List.length_cons, List.length_nil]; omega
   clear hq8 ht8 hk8 HKT
   replace HD : Hid (Due P (.ok i) (namesT r ⟨#[43]⟩ (fun ts => (fun u => bindM (needM r ⟨#[123]⟩) fun _ => allK r ⟨#[125]⟩ (sigK r T) (fun l => ndM 6 nm a l) (r.L.length + 1) [u]) (.mk 14 ⟨#[]⟩ a3 ts)) f' t8.kids) σ8) := HD
   clear HV HSK HG2 HOW HGG v0 v1 v2' v3 fz
   refine (take_r r _ false ⟨#[43]⟩ _ HT.out.rr HE.out HK.out (by decide) (known_of (by decide))).mono ?_
   rintro e w21 ⟨b, rfl, hr, hm, hg, hz⟩
   have HTK := Lib.hid hg
   replace HD := Lib.hid (HD.out.step hg)
   replace HT := Lib.hid (HT.out.on hr hm)
   replace HB := Lib.hid (HB.out.on hm)
   clear hr hm hg
   cases b
   ·clear HTK hz HG9
    replace HD := Lib.hid (HD.out.to (Q' := (fun ts => (fun u => bindM (needM r ⟨#[123]⟩) fun _ => allK r ⟨#[125]⟩ (sigK r T) (fun l => ndM 6 nm a l) (r.L.length + 1) [u]) (.mk 14 ⟨#[]⟩ a3 ts)) t8.kids) rfl)
    generalize after (tookM r ⟨#[43]⟩) σ8 = σ7 at HT HD
    replace HD := Lib.hid (HD.out.to (Q' := (fun u => bindM (needM r ⟨#[123]⟩) fun _ => allK r ⟨#[125]⟩ (sigK r T) (fun l => ndM 6 nm a l) (r.L.length + 1) [u]) t8) (by have h := HK7.out; exact congrArg (fun u => bindM (needM r ⟨#[123]⟩) fun _ => allK r ⟨#[125]⟩ (sigK r T) (fun l => ndM 6 nm a l) (r.L.length + 1) [u]) h.symm))
    have HK9 : Hid (t8 = t8) := rfl
    clear HK7 hf8
    obtain ⟨b0, b1, b2, b3⟩ := HB.out.box.cells
    have hnf := Nodes.first (B := w.heap.size + 1) (w := w21) (q := q8) HB.out.tree (by have := HT.out.up; omega)
    have hbx := boxB w21 (.cells #[.int .i64 q8.kind, .string q8.text, .int .i64 q8.at_, .slice q8.p q8.n q8.cap] 40)
    have HT2 := Lib.hid (HT.out.on (HT.out.rr.below hbx) (Mv.of_below hbx))
    have HN := Lib.hid hnf
    unfold ndC at HN
    clear hnf hbx
    go_wp2_with fail
    clear b0 b1 b2 b3 HB HT
    have HT := HT2
    clear HT2
    obtain ⟨g6, hg6⟩ : ∃ g6, w21.heap.size = g6 := ⟨_, rfl⟩
    rw [hg6] at HN ⊢
    generalize w21.alloc (.cells #[.int .i64 q8.kind, .string q8.text, .int .i64 q8.at_, .slice q8.p q8.n q8.cap] 40) = w30 at *
    clear hg6
    refine (leaf_r 6 nm a (some ⟨g6, 0, none⟩) 1 1 _ HT.out.rr).mono ?_
    rintro e w31 ⟨rfl, hr, hm⟩
    replace HT := Lib.hid (HT.out.on hr hm)
    replace HN := Lib.hid (HN.out.mv hm (by have := HT.out.rb; omega))
    clear hr hm
    unfold ndC
    go_wp2_with fail
    have HB := Lib.hid (KB2.first 6 nm a HT.out HN.out)
    have hbx := boxB w31 (.cells (ndC ⟨6, nm, a, some ⟨g6, 0, none⟩, 1, 1⟩) 40)
    replace HT := Lib.hid (HT.out.on (HT.out.rr.below hbx) (Mv.of_below hbx))
    clear hbx HN
    unfold ndC at HB HT
    obtain ⟨g, hg⟩ : ∃ g, w31.heap.size = g := ⟨_, rfl⟩
    rw [hg] at HB ⊢
    generalize w31.alloc (.cells #[.int .i64 6, .string nm, .int .i64 a, .slice (some ⟨g6, 0, none⟩) 1 1] 40) = w32 at *
    clear hg
    replace HD := Lib.hid (HD.out.to (Q' := bindM (needM r ⟨#[123]⟩) fun _ => allK r ⟨#[125]⟩ (sigK r T) (fun l => ndM 6 nm a l) (r.L.length + 1) [t8]) (by first | rfl | (have h := HK9.out; rw [h]; rfl)))
    refine (need_r r _ false ⟨#[123]⟩ _ HT.out.rr HE.out HK.out (by decide) (known_of (by decide))).mono ?_
    rintro e w33 ⟨rfl, hr, hm⟩
    replace HD := Lib.hid (HD.out.step (Got.unit _ _))
    replace HT := Lib.hid (HT.out.on hr hm)
    replace HB := Lib.hid (HB.out.on hm)
    clear hr hm
    generalize after (needM r _) _ = σ33 at HT HD
    have hin := HT.out.rr.in2
    obtain ⟨aa, bb, hin⟩ := hin
    obtain ⟨c0, c1, c2, c3, fz⟩ := hin.c
    have HT3 := Lib.hid (HT.out.flag true)
    have HB3 := Lib.hid (HB.out.on (But.setCell w33 ⟨r.b, 3, none⟩ (.bool true) rfl : Mv r w33 _))
    clear hin HT HB
    go_wp2_with fail
    clear c0 c1 c2 c3 fz aa bb
    have HT := HT3
    have HB := HB3
    clear HT3 HB3
    generalize w33.setCell ⟨r.b, 3, none⟩ (.bool true) = w34 at *
    go_loopw [15, 16, 17] (fun _x15 _x16 _x17 wr => ∃ (f : Nat) (q : Raw) (t : Tree) (σ9 : Except Nat Nat), Hid (St r w σ9 true wr) ∧ Hid (KB2 r w g q t wr) ∧ Hid (Due P (.ok i) (allK r ⟨#[125]⟩ (sigK r T) (fun l => ndM 6 nm a l) f t.kids) σ9) ∧ Hid (t = .mk 6 nm a t.kids) ∧ t.kids.length + f = r.L.length + 2 ∧ ∀ i, σ9 = .ok i → r.L.length ≤ f + i) (fun _x15 _x16 _x17 wr => roomOf r wr)
    case atStart => exact ⟨r.L.length + 1, _, .mk 6 nm a [t8], _, HT.out, HB.out, HD.out, rfl, by simp only [Tree.kids, List.length_cons, List.length_nil]; omega, fun i e => by omega⟩
    case round =>
     clear HT HB HD
     obtain ⟨f, q, t, σ9, HT, HB, HD, HKT, hf, HI0⟩ := hrel
     have HRM := Lib.hid (roomOf_eq HT.out.rr)
     have hfew := HT.out.rr.few
     go_wp2_with fail
     refine (ok_r r _ true _ HT.out.rr).mono ?_
     rintro e w7 ⟨b, rfl, rfl, hb⟩
     rcases hb with ⟨rfl, i9, rfl⟩ | ⟨rfl, k, rfl⟩
     rotate_left
     ·clear HI0 HRM
      have hin := HT.out.rr.in2
      obtain ⟨aa, bb, hin⟩ := hin
      obtain ⟨c0, c1, c2, c3, fz⟩ := hin.c
      have HB3 := Lib.hid (HB.out.on (But.setCell w7 ⟨r.b, 3, none⟩ (.bool false) rfl : Mv r w7 _))
      replace HT := Lib.hid (HT.out.flag false)
      clear hin HB
      have HB := HB3
      clear HB3
      obtain ⟨b0, b1, b2, b3⟩ := HB.out.box.cells
      have HW := Lib.hid (HT.out.ret (q := q) (HB.out.tree))
      obtain ⟨d0, d1, d2, d3, f0⟩ := HT.out.res.cells
      try unfold ndC
      go_wp2_with fail
      obtain ⟨hcell, hist, hrr, hmv⟩ := HW.out
      exact bodyPost_ret (results_cellT rfl _ _ _ ⟨w.heap.size, 0, none⟩ _ rfl (load_node _ _ q hcell)) rfl (HD.out.postE hist hrr hmv)
     have hfi := HI0 i9 rfl
     have hlt := HT.out.rr.lt
     obtain ⟨f', rfl⟩ : ∃ f', f = f' + 1 := ⟨f - 1, by omega⟩
     clear HI0
     replace HD : Hid (Due P (.ok i) (allT r ⟨#[125]⟩ (sigK r T) (fun l => ndM 6 nm a l) f' t.kids) (.ok i9)) := HD
     go_wp2_with fail
     refine (take_r r _ true ⟨#[125]⟩ _ HT.out.rr HE.out HK.out (by decide) (known_of (by decide))).mono ?_
     rintro e w38 ⟨b, rfl, hr, hm, hg, hz⟩
     have HTK := Lib.hid hg
     replace HD := Lib.hid (HD.out.step hg)
     replace HT := Lib.hid (HT.out.on hr hm)
     replace HB := Lib.hid (HB.out.on hm)
     clear hr hm hg
     cases b
     rotate_left
     ·obtain ⟨i0, hi0, ha0⟩ := took_true HTK.out hz
      cases hi0
      rw [ha0] at HT HD
      clear HTK hz ha0 HRM
      replace HD := Lib.hid (HD.out.to (Q' := pureM t) (by have h := HKT.out; exact congrArg pureM h.symm))
      have hin := HT.out.rr.in2
      obtain ⟨aa, bb, hin⟩ := hin
      obtain ⟨c0, c1, c2, c3, fz⟩ := hin.c
      have HB3 := Lib.hid (HB.out.on (But.setCell w38 ⟨r.b, 3, none⟩ (.bool false) rfl : Mv r w38 _))
      replace HT := Lib.hid (HT.out.flag false)
      clear hin HB
      have HB := HB3
      clear HB3
      obtain ⟨b0, b1, b2, b3⟩ := HB.out.box.cells
      have HW := Lib.hid (HT.out.ret (q := q) (HB.out.tree))
      obtain ⟨d0, d1, d2, d3, f0⟩ := HT.out.res.cells
      try unfold ndC
      go_wp2_with fail
      obtain ⟨hcell, hist, hrr, hmv⟩ := HW.out
      exact bodyPost_ret (results_cellT rfl _ _ _ ⟨w.heap.size, 0, none⟩ _ rfl (load_node _ _ q hcell)) rfl (HD.out.postP hist hrr hmv)
     have hnt : ¬ isMark r i9 ⟨#[125]⟩ = true := fun hm => by have := HTK.out i9 true (i9 + 1) rfl (tk_yes hm); cases this
     rw [after_ok (tk_no hnt)] at HT HD
     clear HTK hz hnt
     replace HD : Hid (Due P (.ok i) (bindM (hereM r) fun af => bindM (needM r ⟨#[102, 110]⟩) fun _ => bindM (nameM r) fun n9 => bindM (needM r ⟨#[40]⟩) fun _ => bindM (argsR r ⟨#[41]⟩ T) fun q => bindM (resultR r T) fun o => bindM (needM r ⟨#[59]⟩) fun _ => allK r ⟨#[125]⟩ (sigK r T) (fun l => ndM 6 nm a l) f' (t.kids ++ [.mk 9 n9 af [q, o]])) (.ok i9)) := HD
     have HOW : Hid (∀ b, (Value.slice q.p q.n q.cap).ownBlock = some b → b < w38.heap.size ∧ r.b < b ∧ b ≠ g ∧ w.heap.size < b) := fun b e => by have := HB.out.own b e; exact ⟨this.2.1, this.1, this.2.2.1, this.2.2.2⟩
     have HGN : Hid (g < w38.heap.size) := lt_heap HB.out.box.z
     obtain ⟨N0, hN0⟩ : ∃ N0, w38.heap.size = N0 := ⟨_, rfl⟩
     rw [hN0] at HOW HGN
     have HN0 : Hid (N0 ≤ w38.heap.size) := Nat.le_of_eq hN0.symm
     clear hN0
     go_wp2_with fail
     refine (here_r r _ true _ HT.out.rr).mono ?_
     rintro e w39 ⟨af, rfl, hr, hm, hg⟩
     replace HD := Lib.hid (HD.out.step hg)
     replace HN0 : Hid (N0 ≤ _) := Nat.le_trans HN0.out hm.size
     replace HT := Lib.hid (HT.out.on hr hm)
     replace HB := Lib.hid (HB.out.on hm)
     clear hr hm hg
     go_wp2_with fail
     refine (need_r r _ true ⟨#[102, 110]⟩ _ HT.out.rr HE.out HK.out (by decide) (known_of (by decide))).mono ?_
     rintro e w40 ⟨rfl, hr, hm⟩
     replace HD := Lib.hid (HD.out.step (Got.unit _ _))
     replace HN0 : Hid (N0 ≤ _) := Nat.le_trans HN0.out hm.size
     replace HT := Lib.hid (HT.out.on hr hm)
     replace HB := Lib.hid (HB.out.on hm)
     clear hr hm
     have HG0 : Hid (Geq (i9 + 1) (after (needM r ⟨#[102, 110]⟩) (after (hereM r) (.ok i9)))) := fun j e => by rw [after_here] at e; exact (ups_need r _).after e
     generalize (after (needM r ⟨#[102, 110]⟩) (after (hereM r) (.ok i9))) = σ10 at HT HD HG0
     go_wp2_with fail
     refine (name_r r _ true _ HT.out.rr HE.out).mono ?_
     rintro e w42 ⟨n9, rfl, hr, hm, hg⟩
     replace HD := Lib.hid (HD.out.step hg)
     replace HN0 : Hid (N0 ≤ _) := Nat.le_trans HN0.out hm.size
     replace HT := Lib.hid (HT.out.on hr hm)
     replace HB := Lib.hid (HB.out.on hm)
     clear hr hm hg
     go_wp2_with fail
     refine (need_r r _ true ⟨#[40]⟩ _ HT.out.rr HE.out HK.out (by decide) (known_of (by decide))).mono ?_
     rintro e w43 ⟨rfl, hr, hm⟩
     replace HD := Lib.hid (HD.out.step (Got.unit _ _))
     replace HN0 : Hid (N0 ≤ _) := Nat.le_trans HN0.out hm.size
     replace HT := Lib.hid (HT.out.on hr hm)
     replace HB := Lib.hid (HB.out.on hm)
     clear hr hm
     replace HG0 : Hid (Geq (i9 + 1) (after (needM r ⟨#[40]⟩) (after (nameM r) σ10))) := (HG0.out.after (ups_name r).up).after (ups_need r _).up
     generalize after (needM r ⟨#[40]⟩) (after (nameM r) σ10) = σ11 at HT HD HG0
     go_wp2_with fail
     refine (rArgs_any r _ true T ⟨#[41]⟩ ⟨by decide, known_of (by decide)⟩ HUP.out _ HT.out.rr HE.out HK.out HTY.out).mono ?_
     rintro e w44 ⟨q1, t1, rfl, ht, hr, hm, hg⟩
     have HI := Lib.hid (ht.mono (A' := fun b => N0 ≤ b) (fun b hb => Nat.le_trans HN0.out hb))
     replace HD := Lib.hid (HD.out.step hg)
     replace HN0 : Hid (N0 ≤ _) := Nat.le_trans HN0.out hm.size
     replace HT := Lib.hid (HT.out.on hr hm)
     replace HB := Lib.hid (HB.out.on hm)
     clear hr hm hg ht
     replace HG0 : Hid (Geq (i9 + 1) (after (argsR r ⟨#[41]⟩ T) σ11)) := HG0.out.after (up_argsR r _ T HUP.out)
     generalize after (argsR r ⟨#[41]⟩ T) σ11 = σ12 at HT HD HG0
     have HG3 : Hid (N0 ≤ w44.heap.size) := HN0
     have HV := Lib.hid (VarD.first HT.out HI.out)
     have hbx := boxB w44 (.cells (ndC q1) 40)
     replace HN0 : Hid (N0 ≤ _) := Nat.le_trans HN0.out hbx.size
     replace HT := Lib.hid (HT.out.on (HT.out.rr.below hbx) (Mv.of_below hbx))
     replace HB := Lib.hid (HB.out.on (Mv.of_below hbx))
     clear hbx HI
     unfold ndC at HV HT HB HN0
     unfold ndC
     go_wp2_with fail
     obtain ⟨g3, hg3⟩ : ∃ g3, w44.heap.size = g3 := ⟨_, rfl⟩
     rw [hg3] at HV HG3 ⊢
     generalize w44.alloc (.cells #[.int .i64 q1.kind, .string q1.text, .int .i64 q1.at_, .slice q1.p q1.n q1.cap] 40) = w45 at *
     clear hg3
     have HOG : Hid ((Value.slice q.p q.n q.cap).ownBlock ≠ some g) := fun e => (HB.out.own g e).2.2.1 rfl
     have HO : Hid (∀ b, (Value.slice q.p q.n q.cap).ownBlock = some b → r.b < b ∧ b < w45.heap.size ∧ b ≠ g ∧ w.heap.size < b) := HB.out.own
     have HRW : Hid (r.b < w45.heap.size) := HT.out.rr.rb
     have HGL : Hid (g < w45.heap.size ∧ w.heap.size < g ∧ r.b < w.heap.size) := ⟨lt_heap HB.out.box.z, HB.out.box.new, HB.out.box.old⟩
     apply wp_region_many 12 (Sx r (Value.slice q.p q.n q.cap).ownBlock 6 10) (InvX r w (Value.slice q.p q.n q.cap).ownBlock w45) (F02 r σ12 true (w.heap.size + 1) g (.slice q.p q.n q.cap) t.kids 6 10)
     case hIS => exact fun i x y hs hi => hi.step i hs (fun b e => Nat.le_of_lt (HO.out b e).2.2.2)
     case hk0 => exact F02.keeps (by have := HGL.out; omega) (fun b e => by have := HO.out b e; omega)
     case hm => kernel_rfl
     case hB => kernel_rfl
     case h0 => exact InvX.start HT.out.mv
     case h1 => exact F02.start HT.out.rr HB.out.nodes
     simp only [List.take_succ_cons, List.take_zero, List.drop_succ_cons, List.drop_zero]
     apply wpMany_cons (t := tvIs (.pointer (some ⟨g, 3, none⟩))) (tvIs_goodS _ _)
     case h1 =>
      intro W hI hl
      unfold oneAt
      go_simp
      exact sx_is (by decide) (by decide)
     intro _
     rw [tvIs_f]
     go_simp
     apply wpMany_cons (t := tvIs (.slice q.p q.n q.cap)) (tvIs_goodS _ _)
     case h1 =>
      intro W hI hl
      obtain ⟨b0, b1, b2, b3⟩ := (hI.box HB.out.box HOG.out).cells
      unfold oneAt
      go_simp
      exact sx_is (by decide) (by decide)
     intro _
     rw [tvIs_f]
     go_simp
     apply wpMany_cons (t := tvIs (.string n9)) (tvIs_goodS _ _)
     case h1 =>
      intro W hI hl
      unfold oneAt
      go_simp
      exact sx_is (by decide) (by decide)
     intro _
     rw [tvIs_f]
     go_simp
     apply wpMany_cons (t := tvIs (.int .i64 af)) (tvIs_goodS _ _)
     case h1 =>
      intro W hI hl
      unfold oneAt
      go_simp
      exact sx_is (by decide) (by decide)
     intro _
     rw [tvIs_f]
     go_simp
     apply wpMany_cons (t := tvIs (.agg #[.int .i64 q1.kind, .string q1.text, .int .i64 q1.at_, .slice q1.p q1.n q1.cap])) (tvIs_goodS _ _)
     case h1 =>
      intro W hI hl
      obtain ⟨b0, b1, b2, b3⟩ := (hI.box HV.out.box (fun e => by have := (HOW.out g3 e).1; have := HG3.out; omega)).cells
      unfold oneAt
      go_simp
      exact sx_is (by decide) (by decide)
     intro _
     rw [tvIs_f]
     go_simp
     apply wpMany_cons (t := tvIs (.pointer (some ⟨r.b, 0, none⟩))) (tvIs_goodS _ _)
     case h1 =>
      intro W hI hl
      unfold oneAt
      go_simp
      exact sx_is (by decide) (by decide)
     intro _
     rw [tvIs_f]
     go_simp
     apply wpMany_cons (t := tyCall r w45 (resultR r T) σ12 true) (tyCall_good HRW.out (fun b e => by have := HO.out b e; omega))
     case h1 =>
      intro W hI hl
      have hr : RrAt r σ12 true W := hl.1.1 rfl
      unfold oneAt
      go_simp
      exact sx_call hI (rResult_any r _ true T _ hr HE.out HK.out HTY.out)
     rintro ⟨q5, t5⟩
     rw [tyCall_f]
     unfold ndC
     go_simp
     apply wpMany_cons (t := tyRowA (fun b => N0 ≤ b) 2 (fun l => ∃ e, l = [t1, e] ∧ Got (resultR r T) σ12 e)) (tyRowA_good (fun b hb => ⟨by have := HGL.out; have := HGN.out; omega, fun e => by have := (HOW.out b e).1; omega⟩))
     case h1 =>
      intro W hI hl
      have h5 : IsT (fun b => w45.heap.size ≤ b) W q5 t5 ∧ RrAt r (after (resultR r T) σ12) true W ∧ Got (resultR r T) σ12 t5 := hl.2 ⟨6, .data⟩ (by simp) rfl
      have hvt := hI.tree HV.out.tree (fun b hb => ⟨by have := HGL.out; have := HGN.out; omega, fun e => by have := (HOW.out b e).1; omega⟩)
      unfold oneAt
      go_simp
      exact sx_rowA [q1, q5] [t1, t5] hI (fun b hb => Nat.le_trans HN0.out hb) (by decide) (by decide) rfl rfl rfl (by decide) (by decide) (fun i a b => match i, a, b with | 0, _, _ => hvt | 1, _, _ => h5.1.mono (fun b hb => Nat.le_trans HN0.out hb) | i + 2, c, _ => absurd c (by simp)) (⟨t5, rfl, h5.2.2⟩)
     rintro ⟨g6, l6⟩
     rw [tyRowA_f]
     go_simp
     apply wpMany_cons (t := tyNodeA (fun b => N0 ≤ b) (fun u => ∃ e, u = Tree.mk 9 n9 af [t1, e] ∧ Got (resultR r T) σ12 e)) (tyNodeA_good (fun b hb => ⟨by have := HGL.out; have := HGN.out; omega, fun e => by have := (HOW.out b e).1; omega⟩))
     case h1 =>
      intro W hI hl
      have h6 : IsTs (fun b => N0 ≤ b) W (.slice (some ⟨g6, 0, none⟩) 2 2) l6 ∧ ∃ e, l6 = [t1, e] ∧ Got (resultR r T) σ12 e := hl.2 ⟨7, .data⟩ (by simp) rfl
      unfold oneAt
      go_simp
      exact sx_nodeA hI (by decide) (by decide) (h6.1) (by obtain ⟨e, he, hg⟩ := h6.2; exact ⟨e, by rw [he], hg⟩) (rLeaf_any (9) (n9) (af) (some ⟨g6, 0, none⟩) 2 2 W)
     rintro ⟨q7, t7⟩
     rw [tyNodeA_f]
     unfold ndC
     go_simp
     apply wpMany_cons (t := tyRowA (fun b => N0 ≤ b) 1 (fun l => ∃ e, l = [Tree.mk 9 n9 af [t1, e]] ∧ Got (resultR r T) σ12 e)) (tyRowA_good (fun b hb => ⟨by have := HGL.out; have := HGN.out; omega, fun e => by have := (HOW.out b e).1; omega⟩))
     case h1 =>
      intro W hI hl
      have h7 : IsT (fun b => N0 ≤ b) W q7 t7 ∧ ∃ e, t7 = Tree.mk 9 n9 af [t1, e] ∧ Got (resultR r T) σ12 e := hl.2 ⟨8, .data⟩ (by simp) rfl
      unfold oneAt
      go_simp
      exact sx_rowA [q7] [t7] hI (fun b hb => Nat.le_trans HN0.out hb) (by decide) (by decide) rfl rfl rfl (by decide) (by decide) (fun i a b => match i, a, b with | 0, _, _ => h7.1 | i + 1, c, _ => absurd c (by simp)) (by obtain ⟨e, he, hg⟩ := h7.2; exact ⟨e, by rw [he], hg⟩)
     rintro ⟨g8, l8⟩
     rw [tyRowA_f]
     go_simp
     apply wpMany_cons (t := tyList2 (w.heap.size + 1) g (Value.slice q.p q.n q.cap).ownBlock w45 (fun l => ∃ e, l = t.kids ++ [Tree.mk 9 n9 af [t1, e]] ∧ Got (resultR r T) σ12 e)) (tyList2_good (by have := HGL.out; omega))
     case h1 =>
      intro W hI hl
      have hN : Nodes2 (w.heap.size + 1) g W (.slice q.p q.n q.cap) t.kids := hl.1.2 rfl
      have h8 : IsTs (fun b => N0 ≤ b) W (.slice (some ⟨g8, 0, none⟩) 1 1) l8 ∧ ∃ e, l8 = [Tree.mk 9 n9 af [t1, e]] ∧ Got (resultR r T) σ12 e := hl.2 ⟨9, .data⟩ (by simp) rfl
      exact sx_push2 rfl (.tmp 149) (.tmp 157) rfl rfl rfl hI (by decide) hN (by have := HGL.out; omega) HGL.out.1 (fun b e => (HO.out b e).2.1) (A := (fun b => N0 ≤ b)) (fun b hb => ⟨⟨by have := HGL.out; have := HGN.out; omega, by have := HGN.out; omega⟩, fun e => by have := (HOW.out b e).1; omega⟩) (h8.1) (by omega) (by obtain ⟨e, he, hg⟩ := h8.2; exact ⟨e, by rw [he], hg⟩)
     rintro ⟨v7, l7⟩
     rw [tyList2_f]
     go_simp
     apply wpMany_cons (t := tvIs (.pointer (some ⟨g, 3, none⟩))) (tvIs_goodS _ _)
     case h1 =>
      intro W hI hl
      unfold oneAt
      go_simp
      exact sx_is (by decide) (by decide)
     intro _
     rw [tvIs_f]
     go_simp
     apply wpMany_nil (Ts := [])
     intro w60 hI hFa
     have h5 : IsT (fun b => w45.heap.size ≤ b) w60 q5 t5 ∧ RrAt r (after (resultR r T) σ12) true w60 ∧ Got (resultR r T) σ12 t5 := hFa 6
     have hrr := h5.2.1
     have h7 : Nodes2 (w.heap.size + 1) g w60 v7 l7 ∧ (∃ e, l7 = t.kids ++ [Tree.mk 9 n9 af [t1, e]] ∧ Got (resultR r T) σ12 e) ∧ _ := hFa 10
     obtain ⟨h7, ⟨t6, rfl, hg6⟩, -⟩ := h7
     obtain ⟨p7, c7, rfl, -, -⟩ := h7.base.slice
     obtain ⟨n7, e7⟩ : ∃ n7, (t.kids ++ [Tree.mk 9 n9 af [t1, t6]]).length = n7 := ⟨_, rfl⟩
     rw [e7] at h7 ⊢
     clear e7
     replace HD := Lib.hid (HD.out.step hg6)
     have HBX := Lib.hid (hI.box HB.out.box HOG.out)
     replace HB := Lib.hid (HB.out.store HBX.out h7)
     replace HT := Lib.hid ((hI.st HT.out hrr (fun b e => (HO.out b e).2.2.2)).poke g 3 (.slice p7 n7 c7) HBX.out.new)
     have HK7 : Hid (Tree.mk t.kind t.text t.at_ (t.kids ++ [Tree.mk 9 n9 af [t1, t6]]) = .mk 6 nm a (t.kids ++ [Tree.mk 9 n9 af [t1, t6]])) := by show _ = _; rw [HKT.out]; rfl
     obtain ⟨b0, b1, b2, b3⟩ := HBX.out.cells
     have fz := HBX.out.warm'
     have hf8 : (t.kids ++ [Tree.mk 9 n9 af [t1, t6]]).length + f' = r.L.length + 2 := by rw [List.length_append]; simp only [List.length_cons, List.length_nil]; omega
     clear hI hFa h5 h7 hrr HO HRW HGL HOG HKT
     go_wp2_with fail
     clear b0 b1 b2 b3 fz HBX
     generalize w60.setCell ⟨g, 3, none⟩ (.slice p7 n7 c7) = w41 at *
     obtain ⟨q8, hq8⟩ : ∃ q8 : Raw, q8 = ⟨q.kind, q.text, q.at_, p7, n7, c7⟩ := ⟨_, rfl⟩
     obtain ⟨t8, ht8⟩ : ∃ t8, t8 = Tree.mk t.kind t.text t.at_ (t.kids ++ [Tree.mk 9 n9 af [t1, t6]]) := ⟨_, rfl⟩
     have hk8 : t8.kids = t.kids ++ [Tree.mk 9 n9 af [t1, t6]] := by rw [ht8]; rfl
     rw [← hq8, ← ht8] at HB
     rw [← ht8, ← hk8] at HK7
     rw [← hk8] at hf8
     clear hq8 ht8
     replace HG0 : Hid (Geq (i9 + 1) (after (resultR r T) σ12)) := HG0.out.after (up_resultR r T HUP.out)
     generalize after (resultR r T) σ12 = σ13 at HT HD HG0
     refine (need_r r _ true ⟨#[59]⟩ _ HT.out.rr HE.out HK.out (by decide) (known_of (by decide))).mono ?_
     rintro e w61 ⟨rfl, hr, hm⟩
     replace HD := Lib.hid (HD.out.step (Got.unit _ _))
     replace HT := Lib.hid (HT.out.on hr hm)
     replace HB := Lib.hid (HB.out.on hm)
     clear hr hm
     replace HD : Hid (Due P (.ok i) (allK r ⟨#[125]⟩ (sigK r T) (fun l => ndM 6 nm a l) f' t8.kids) (after (needM r ⟨#[59]⟩) σ13)) := by rw [hk8]; exact HD
     have HGE : Hid (Geq (i9 + 1) (after (needM r ⟨#[59]⟩) σ13)) := HG0.out.after (ups_need r _).up
     generalize (after (needM r ⟨#[59]⟩) σ13) = σ42 at HT HD HGE
     have hrm := roomOf_eq HT.out.rr
     go_wp2_with fail
     go_roundw
     case rel => exact ⟨f', q8, t8, σ42, HT.out, HB.out, HD.out, HK7.out, hf8, fun i e => by have := HGE.out i e; omega⟩
     case measure =>
      rw [hrm, HRM.out]
      cases σ42 with
      | ok j => have := HGE.out j rfl; have := HT.out.rr.lt; simp only [room]; omega
      | error k => simp only [room]; omega
   ·obtain ⟨i10, hi10, ha10⟩ := took_true HTK.out hz
    subst hi10
    rw [ha10] at HT HD
    obtain ⟨hij, hro⟩ := HG9.out i10 rfl
    clear HTK hz ha10 HG9
    have hrm := roomOf_eq HT.out.rr
    have hlt2 := HT.out.rr.lt
    go_wp2_with fail
    go_roundw
    case rel => exact ⟨f', q8, t8, _, HT.out, HB.out, HD.out, HK7.out, hf8, by omega, fun i e => by cases e; omega⟩
    case measure => rw [hrm, HRM.out]; simp only [room] at hro ⊢; omega
end Go.Proofs.YtgcaeimlmkkeoaaGreat
