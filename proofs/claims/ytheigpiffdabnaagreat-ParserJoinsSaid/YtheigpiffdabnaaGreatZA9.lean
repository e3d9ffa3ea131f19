/-
  CONTRACTS: stmtOrValue.
-/
import Derived.Test.YtheigpiffdabnaaGreatZA8
set_option linter.unusedSimpArgs false
set_option linter.unusedVariables false
namespace Go.Proofs.YtheigpiffdabnaaGreat
open Go Go.RowKit
theorem tvIs_call {P : Program} {A : World → World → Prop} {Pn : Ending → World → Prop} {c : Nat} {v : Value} {W : World} {g : FuncId} {args : Array Value} (hc : Calls P g args W fun e w' => e = .returned v ∧ Below W.heap.size W w') :
  oneUpon P (sel A (fun a b => Below a.heap.size a b) c c) Pn (tvIs v) W (.ok (.enter g args) W) := by
 refine hc.mono ?_
 rintro e w' ⟨rfl, hb⟩
 refine .inl ⟨(), rfl, ?_, trivial⟩
 unfold sel
 rw [if_pos rfl]
 exact hb
/-- what a statement is that begins with none of the three words -/
def restS (r : Rdr) (E : PM Tree) (k : Bool) : PM Tree := match k with
 | false => valueM r E
 | true => bindM (peekM r) fun y => match isB y ⟨#[61]⟩ with
  | true => assignM r E
  | false => valueM r E
/-- what stands while the token is looked at -/
structure InvR (r : Rdr) (j lv : Nat) (s : Bool) (wa x : World) : Prop where
 rd : RdAt r j lv s x
 mv : Mv r wa x
theorem RdAt.tokAt {r : Rdr} {i lv : Nat} {s : Bool} {w : World} (h : RdAt r i lv s w) (k : Nat) (hk : k < r.L.length) : ∃ b off, r.p = some ⟨b, off, none⟩ ∧
  w.cell? ⟨b, off + k * 3, none⟩ = some (.int .i64 (r.L.getD k tok0).kind) ∧ w.cell? ⟨b, off + k * 3 + 1, none⟩ = some (.string (r.L.getD k tok0).text) ∧ w.cell? ⟨b, off + k * 3 + 2, none⟩ = some (.int .i64 (r.L.getD k tok0).at_) := by
 obtain ⟨_, _, _, hl⟩ := h.toks.lies
 obtain ⟨b, off, e, hc⟩ := hl (by omega)
 exact ⟨b, off, e, tok_cells hc k hk⟩
set_option maxRecDepth 100000 in
set_option maxHeartbeats 1000000 in
theorem stmt_any (r : Rdr) (i lv : Nat) (s : Bool) (E Bk : PM Tree) (w : World) (h : RdAt r i lv s w) (hE : EndAt r)
  (HLE : ∀ a w1, RdAt r a lv s w1 → Calls Tryz.prog 97 #[.pointer (some ⟨r.b, 0, none⟩)] w1 (RulePost r (letM r E a) lv s w1))
  (HWH : ∀ a w1, RdAt r a lv s w1 → Calls Tryz.prog 98 #[.pointer (some ⟨r.b, 0, none⟩)] w1 (RulePost r (whileM r E Bk a) lv s w1))
  (HPR : ∀ a w1, RdAt r a lv s w1 → Calls Tryz.prog 99 #[.pointer (some ⟨r.b, 0, none⟩)] w1 (RulePost r (printM r E a) lv s w1))
  (HAS : ∀ a w1, RdAt r a lv s w1 → Calls Tryz.prog 100 #[.pointer (some ⟨r.b, 0, none⟩)] w1 (RulePost r (assignM r E a) lv s w1))
  (HEX : ∀ a w1, RdAt r a lv s w1 → Calls Tryz.prog 61 #[.pointer (some ⟨r.b, 0, none⟩)] w1 (RulePost r (E a) lv s w1)) :
  Calls Tryz.prog 93 #[.pointer (some ⟨r.b, 0, none⟩)] w (RulePost r (stmtM r E Bk i) lv s w) := by
 have HRB : Hid (r.b < w.heap.size) := lt_heap h.cells
 have HR1 := Lib.hid (h.below (boxB w (.cells #[.int .i64 0, .string ⟨#[]⟩, .int .i64 0, .slice none 0 0] 37)))
 have HM1 := Lib.hid (Mv.of_below (r := r) (boxB w (.cells #[.int .i64 0, .string ⟨#[]⟩, .int .i64 0, .slice none 0 0] 37)))
 have HS1 := Lib.hid (ResAt.start w)
 generalize hX0 : stmtM r E Bk i = X
 unfold stmtM at hX0
 have HX1 := Lib.hid hX0
 have HE := Lib.hid hE
 have HLE1 := Lib.hid HLE
 have HWH1 := Lib.hid HWH
 have HPR1 := Lib.hid HPR
 have HAS1 := Lib.hid HAS
 have HE1 := Lib.hid HEX
 clear hX0 h hE HLE HWH HPR HAS HEX
 go_enter Tryz.func93, Tryz.ntmps93
 go_wp2_with fail
 generalize w.alloc (.cells #[.int .i64 0, .string ⟨#[]⟩, .int .i64 0, .slice none 0 0] 37) = w1 at *
 refine (is_x r i lv s ⟨#[108, 101, 116]⟩ w1 HR1.out).mono ?_
 rintro e w2 ⟨b1, j2, hx, rfl, hr, hm⟩
 have HX2 := Lib.hid (bindM_ok hx HX1.out)
 have HR2 := Lib.hid hr
 have HM2 := Lib.hid (HM1.out.trans hm)
 have HS2 := Lib.hid (HS1.out.mv hm HRB.out)
 clear hx hr hm HX1 HR1 HM1 HS1
 cases b1
 ·skip
  go_wp2_with fail
  refine (is_x r j2 lv s ⟨#[119, 104, 105, 108, 101]⟩ w2 HR2.out).mono ?_
  rintro e w3 ⟨b2, j3, hx, rfl, hr, hm⟩
  have HX3 := Lib.hid (bindM_ok hx HX2.out)
  have HR3 := Lib.hid hr
  have HM3 := Lib.hid (HM2.out.trans hm)
  have HS3 := Lib.hid (HS2.out.mv hm HRB.out)
  clear hx hr hm HX2 HR2 HM2 HS2
  cases b2
  ·skip
   go_wp2_with fail
   refine (is_x r j3 lv s ⟨#[112, 114, 105, 110, 116]⟩ w3 HR3.out).mono ?_
   rintro e w4 ⟨b3, j4, hx, rfl, hr, hm⟩
   have HX4 := Lib.hid (bindM_ok hx HX3.out)
   have HR4 := Lib.hid hr
   have HM4 := Lib.hid (HM3.out.trans hm)
   have HS4 := Lib.hid (HS3.out.mv hm HRB.out)
   clear hx hr hm HX3 HR3 HM3 HS3
   cases b3
   ·skip
    have HXR : Hid (bindM (tokM r) (fun x => restS r E (decide (x.kind = 1))) j4 = X) := HX4
    clear HX4
    go_wp2_with fail
    by_cases hk : (r.L.getD j4 tok0).kind = 1
    ·skip
     have hj1 : j4 + 1 < r.L.length := HE.out _ HR4.out.lt (.inl hk)
     obtain ⟨b, off, hp, -⟩ := HR4.out.tok
     have hfew := HR4.out.few
     have hwr : IntKind.i64.wrap ((j4 : Int) + 1) = ((j4 + 1 : Nat) : Int) := by rw [IntWalk.i64_in _ (by omega)]; omega
     have hlt1 : ((j4 + 1 : Nat) : Int) < (r.L.length : Int) := by omega
     have h0 : restS r E (decide ((r.L.getD j4 tok0).kind = 1)) j4 = X := HXR.out
     rw [decide_eq_true hk] at h0
     cases hy : isB (r.L.getD (j4 + 1) tok0).text ⟨#[61]⟩
     ·skip
      have HXT : Hid (valueM r E j4 = X) := by
       have h1 : (match isB (r.L.getD (j4 + 1) tok0).text ⟨#[61]⟩ with | true => assignM r E | false => valueM r E) j4 = X := h0
       rw [hy] at h1
       exact h1
      obtain ⟨y, HYY⟩ : ∃ y, Hid ((r.L.getD (j4 + 1) tok0).text = y) := ⟨_, rfl⟩
      rw [HYY.out] at hy
      have hyl : (y.toList == [61]) = false := by rw [← hy, isB_lit]
      clear h0 hy HXR
      obtain ⟨kd, HKD⟩ : ∃ kd, Hid ((r.L.getD j4 tok0).kind = kd) := ⟨_, rfl⟩
      obtain ⟨tx, HTX⟩ : ∃ tx, Hid ((r.L.getD j4 tok0).text = tx) := ⟨_, rfl⟩
      obtain ⟨ax, HAX⟩ : ∃ ax, Hid ((r.L.getD j4 tok0).at_ = ax) := ⟨_, rfl⟩
      rw [HKD.out] at hk
      apply wp_region_one 1 19 (fun x y => x = y) (fun x y => Below x.heap.size x y) (fun x => InvR r j4 lv s w4 x) (fun x => True) (fun e x => False)
      case hIA => (rintro x y rfl h; exact h)
      case hIC => (intro x y hl h; exact ⟨h.rd.below hl, h.mv.trans (Mv.of_below hl)⟩)
      case hPA => (intro x y hl h; trivial)
      case hP => (intro k a' W h; exact h.elim)
      case hm => kernel_rfl
      case hB => kernel_rfl
      case h0 => exact ⟨HR4.out.below (Below.drew (Below.refl _ _)), But.drew w4⟩
      case h1 => trivial
      simp only [List.take_succ_cons, List.take_zero, List.drop_succ_cons, List.drop_zero]
      apply wpOne_cons (t := tvIs (.pointer (some ⟨r.b, 0, none⟩))) (tvIs_good _ _)
      case h1 =>
       intro W hI hl
       unfold oneAt
       go_simp
       exact one_is (by decide)
      intro _
      rw [tvIs_f]
      go_simp
      apply wpOne_cons (t := tvIs (.agg (tkC 1 tx ax))) (tvIs_good _ _)
      case h1 =>
       intro W hI hl
       unfold oneAt
       go_simp
       have ht := token_any r j4 lv s W hI.rd
       rw [HKD.out, HTX.out, HAX.out, hk] at ht
       exact tvIs_call ht
      intro _
      rw [tvIs_f]
      unfold tkC
      go_simp
      apply wpOne_cons (t := tvIs (.int .i64 1)) (tvIs_good _ _)
      case h1 =>
       intro W hI hl
       unfold oneAt
       go_simp
       exact one_is (by decide)
      intro _
      rw [tvIs_f]
      go_simp
      apply wpOne_cons (t := tvIs (.bool true)) (tvIs_good _ _)
      case h1 =>
       intro W hI hl
       unfold oneAt
       go_simp
       exact one_is (by decide)
      intro _
      rw [tvIs_f]
      go_simp
      apply wpOne_cons (t := tvIs (.bool true)) (tvIs_good _ _)
      case h1 =>
       intro W hI hl
       unfold oneAt
       go_simp
       exact one_is (by decide)
      intro _
      rw [tvIs_f]
      go_simp
      apply wpOne_cons (t := tvIs (.pointer (some ⟨r.b, 0, none⟩))) (tvIs_good _ _)
      case h1 =>
       intro W hI hl
       unfold oneAt
       go_simp
       exact one_is (by decide)
      intro _
      rw [tvIs_f]
      go_simp
      apply wpOne_cons (t := tvIs (.pointer (some ⟨r.b, 0, none⟩))) (tvIs_good _ _)
      case h1 =>
       intro W hI hl
       unfold oneAt
       go_simp
       exact one_is (by decide)
      intro _
      rw [tvIs_f]
      go_simp
      apply wpOne_cons (t := tvIs (.pointer (some ⟨r.b, 0, none⟩))) (tvIs_good _ _)
      case h1 =>
       intro W hI hl
       unfold oneAt
       go_simp
       exact one_is (by decide)
      intro _
      rw [tvIs_f]
      go_simp
      apply wpOne_cons (t := tvIs (.slice (some ⟨b, off, none⟩) r.L.length r.cap)) (tvIs_good _ _)
      case h1 =>
       intro W hI hl
       obtain ⟨c0, c1, c2, c3, fz⟩ := hI.rd.c
       rw [hp] at c0
       unfold oneAt
       go_simp
       exact one_is (by decide)
      intro _
      rw [tvIs_f]
      go_simp
      apply wpOne_cons (t := tvIs (.pointer (some ⟨r.b, 0, none⟩))) (tvIs_good _ _)
      case h1 =>
       intro W hI hl
       unfold oneAt
       go_simp
       exact one_is (by decide)
      intro _
      rw [tvIs_f]
      go_simp
      apply wpOne_cons (t := tvIs (.pointer (some ⟨r.b, 0, none⟩))) (tvIs_good _ _)
      case h1 =>
       intro W hI hl
       unfold oneAt
       go_simp
       exact one_is (by decide)
      intro _
      rw [tvIs_f]
      go_simp
      apply wpOne_cons (t := tvIs (.pointer (some ⟨r.b, 1, none⟩))) (tvIs_good _ _)
      case h1 =>
       intro W hI hl
       unfold oneAt
       go_simp
       exact one_is (by decide)
      intro _
      rw [tvIs_f]
      go_simp
      apply wpOne_cons (t := tvIs (.int .i64 (j4 : Int))) (tvIs_good _ _)
      case h1 =>
       intro W hI hl
       obtain ⟨c0, c1, c2, c3, fz⟩ := hI.rd.c
       rw [hp] at c0
       unfold oneAt
       go_simp
       exact one_is (by decide)
      intro _
      rw [tvIs_f]
      go_simp
      apply wpOne_cons (t := tvIs (.int .i64 ((j4 + 1 : Nat) : Int))) (tvIs_good _ _)
      case h1 =>
       intro W hI hl
       unfold oneAt
       go_simp
       exact one_is (by decide)
      intro _
      rw [tvIs_f]
      go_simp
      apply wpOne_cons (t := tvIs (.pointer (some ⟨b, off + (j4 + 1) * 3, none⟩))) (tvIs_good _ _)
      case h1 =>
       intro W hI hl
       have hlt2 : (0 : Int) ≤ (j4 : Int) + 1 ∧ (j4 : Int) + 1 < (r.L.length : Int) := by omega
       unfold oneAt
       go_simp
       exact one_is (by decide)
      intro _
      rw [tvIs_f]
      go_simp
      apply wpOne_cons (t := tvIs (.pointer (some ⟨b, off + (j4 + 1) * 3 + 1, none⟩))) (tvIs_good _ _)
      case h1 =>
       intro W hI hl
       unfold oneAt
       go_simp
       exact one_is (by decide)
      intro _
      rw [tvIs_f]
      go_simp
      apply wpOne_cons (t := tvIs (.string y)) (tvIs_good _ _)
      case h1 =>
       intro W hI hl
       obtain ⟨b', off', hp', t0, t1, t2⟩ := hI.rd.tokAt (j4 + 1) hj1
       rw [hp] at hp'
       obtain ⟨rfl, rfl⟩ : b = b' ∧ off = off' := by simpa using hp'
       rw [HYY.out] at t1
       unfold oneAt
       go_simp
       exact one_is (by decide)
      intro _
      rw [tvIs_f]
      go_simp
      apply wpOne_cons (t := tvIs (.bool false)) (tvIs_good _ _)
      case h1 =>
       intro W hI hl
       unfold oneAt
       go_simp
       exact one_is (by decide)
      intro _
      rw [tvIs_f]
      go_simp
      apply wpOne_cons (t := tvIs (.bool false)) (tvIs_good _ _)
      case h1 =>
       intro W hI hl
       unfold oneAt
       go_simp
       exact one_is (by decide)
      intro _
      rw [tvIs_f]
      go_simp
      apply wpOne_nil (Ts := [])
      intro w5 hI hFa
      have hm : Mv r w4 w5 := hI.mv
      have HX5 := HXT
      have HR5 := Lib.hid hI.rd
      have HM5 := Lib.hid (HM4.out.trans hm)
      have HS5 := Lib.hid (HS4.out.mv hm HRB.out)
      clear hI hFa hm HXT HR4 HM4 HS4
      go_wp2_with fail
      have HX5' : Hid (bindM E (fun v => bindM (isM r ⟨#[125]⟩) fun b => match b with | true => pureM v | false => bindM (needM r ⟨#[59]⟩) fun _ => ndM 36 ⟨#[]⟩ v.at_ [v]) j4 = X) := HX5
      clear HX5
      have HX5 := HX5'
      clear HX5'
      refine (HE1.out j4 w5 HR5.out).mono ?_
      intro e w6 hp
      rcases (RulePost.two (p := E) hp) with ⟨k, hx, rfl, hm⟩ | ⟨v, j6, hx, q6, rfl, ht, hr, hm⟩
      ·have HM6 := Lib.hid (HM5.out.trans hm)
       have hX := bindM_err hx HX5.out
       clear hx hm
       subst hX
       unfold stopAt
       go_wp2_with fail
       exact ⟨rfl, rfl, HM6.out⟩
      have HX6 := Lib.hid (bindM_ok hx HX5.out)
      have HR6 := Lib.hid hr
      have HM6 := Lib.hid (HM5.out.trans hm)
      have HS6 := Lib.hid (HS5.out.mv hm HRB.out)
      have HTv6 : Hid (IsT (fun b => w.heap.size < b) w6 q6 v) := ht.mono (fun b hb => HS5.out.up hb)
      unfold ndC
      clear hp hx ht hr hm HX5 HR5 HM5 HS5
      go_wp2_with fail
      have hb := boxB w6 (.cells #[.int .i64 q6.kind, .string q6.text, .int .i64 q6.at_, .slice q6.p q6.n q6.cap] 37)
      have hm : Mv r w6 (w6.alloc (.cells #[.int .i64 q6.kind, .string q6.text, .int .i64 q6.at_, .slice q6.p q6.n q6.cap] 37)) := Mv.of_below hb
      have HX7 := HX6
      have HR7 := Lib.hid (HR6.out.below hb)
      have HM7 := Lib.hid (HM6.out.trans hm)
      have HS7 := Lib.hid (HS6.out.mv hm HRB.out)
      have HTv7 := Lib.hid (HTv6.out.mvB hm HRB.out)
      have HBv7 : Hid (BoxAt r w w6.heap.size q6 (w6.alloc (.cells #[.int .i64 q6.kind, .string q6.text, .int .i64 q6.at_, .slice q6.p q6.n q6.cap] 37))) := ⟨heap_alloc_new w6 _, HS6.out.up (Nat.le_refl _), HRB.out⟩
      clear hb hm HX6 HR6 HM6 HS6 HTv6
      have hsz : (w6.alloc (.cells #[.int .i64 q6.kind, .string q6.text, .int .i64 q6.at_, .slice q6.p q6.n q6.cap] 37)).heap.size = w6.heap.size + 1 := by simp
      obtain ⟨gv, hgv⟩ : ∃ g, w6.heap.size = g := ⟨_, rfl⟩
      rw [hgv] at HBv7 hsz
      generalize w6.alloc (.cells #[.int .i64 q6.kind, .string q6.text, .int .i64 q6.at_, .slice q6.p q6.n q6.cap] 37) = w7 at *
      rw [hgv]
      have HSZ7 := Lib.hid hsz
      clear hgv hsz
      refine (is_x r j6 lv s ⟨#[125]⟩ w7 HR7.out).mono ?_
      rintro e w8 ⟨b, j8, hx, rfl, hr, hm⟩
      have HX8 := Lib.hid (bindM_ok hx HX7.out)
      have HR8 := Lib.hid hr
      have HM8 := Lib.hid (HM7.out.trans hm)
      have HS8 := Lib.hid (HS7.out.mv hm HRB.out)
      have HTv8 := Lib.hid (HTv7.out.mvB hm HRB.out)
      have HBv8 := Lib.hid (HBv7.out.mvB hm HRB.out)
      clear hx hr hm HX7 HR7 HM7 HS7 HTv7 HBv7
      cases b
      ·skip
       go_wp2_with fail
       refine (need_x r j8 lv s ⟨#[59]⟩ w8 HR8.out HE.out (by decide)).mono ?_
       rintro e w9 (⟨k, hx, rfl, hm⟩ | ⟨_, j9, hx, rfl, hr, hm⟩)
       ·have HM9 := Lib.hid (HM8.out.trans hm)
        have hX := bindM_err hx HX8.out
        clear hx hm
        subst hX
        unfold stopAt
        go_wp2_with fail
        exact ⟨rfl, rfl, HM9.out⟩
       have HX9 := Lib.hid (bindM_ok hx HX8.out)
       have HR9 := Lib.hid hr
       have HM9 := Lib.hid (HM8.out.trans hm)
       have HS9 := Lib.hid (HS8.out.mv hm HRB.out)
       have HTv9 := Lib.hid (HTv8.out.mvB hm HRB.out)
       have HBv9 := Lib.hid (HBv8.out.mvB hm HRB.out)
       clear hx hr hm HX8 HR8 HM8 HS8 HTv8 HBv8
       obtain ⟨b0v, b1v, b2v, b3v⟩ := HBv9.out.cells
       go_wp2_with fail
       rw [← HTv9.out.parts.2.2.1] at HX9
       have hb := boxB w9 (.cells #[.int .i64 q6.kind, .string q6.text, .int .i64 q6.at_, .slice q6.p q6.n q6.cap] 37)
       have hm : Mv r w9 (w9.alloc (.cells #[.int .i64 q6.kind, .string q6.text, .int .i64 q6.at_, .slice q6.p q6.n q6.cap] 37)) := Mv.of_below hb
       have HR10 := Lib.hid (HR9.out.below hb)
       have HM10 := Lib.hid (HM9.out.trans hm)
       have HS10 := Lib.hid (HS9.out.mv hm HRB.out)
       have hlt := lt_heap HS9.out.z
       have HL10 : Hid (IsTs (fun b => w.heap.size < b) (w9.alloc (.cells #[.int .i64 q6.kind, .string q6.text, .int .i64 q6.at_, .slice q6.p q6.n q6.cap] 37)) (.slice (some ⟨w9.heap.size, 0, none⟩) 1 1) [v]) := by
        refine IsTs.row _ [q6] _ rfl rfl rfl (by decide) (by decide) hlt (fun i h1 h2 => ?_)
        match i, h1, h2 with
        | 0, _, _ => exact HTv9.out
        | i + 1, h1, _ => exact absurd h1 (by simp)
       clear hb hm hlt HR9 HM9 HS9 HTv9 HBv9
       have HX10 := HX9
       clear HX9
       obtain ⟨g10, hg10⟩ : ∃ g, w9.heap.size = g := ⟨_, rfl⟩
       clear hg10
       generalize w9.alloc (.cells #[.int .i64 q6.kind, .string q6.text, .int .i64 q6.at_, .slice q6.p q6.n q6.cap] 37) = w10 at *
       refine (node_any 36 ⟨#[]⟩ q6.at_ (some ⟨w9.heap.size, 0, none⟩) 1 1 w10).mono ?_
       rintro e w11 ⟨rfl, hb⟩
       have hm : Mv r w10 w11 := Mv.of_below hb
       have HX11 := HX10
       have HR11 := Lib.hid (HR10.out.below hb)
       have HM11 := Lib.hid (HM10.out.trans hm)
       have HS11 := Lib.hid (HS10.out.mv hm HRB.out)
       have HL11 := Lib.hid (HL10.out.mvB hm HRB.out)
       clear hb hm HX10 HR10 HM10 HS10 HL10
       have HW := Lib.hid (res_world r j9 lv s w w11 ⟨36, ⟨#[]⟩, q6.at_, some ⟨w9.heap.size, 0, none⟩, 1, 1⟩ (.mk 36 ⟨#[]⟩ q6.at_ [v]) HRB.out HM11.out HS11.out.z (IsT.node _ _ _ HL11.out) HR11.out)
       obtain ⟨d0, d1, d2, d3, f0⟩ := HS11.out.cells
       have hX : Except.ok ((.mk 36 ⟨#[]⟩ q6.at_ [v]), j9) = X := HX11.out
       clear HX11
       subst hX
       (try unfold ndC)
       go_wp2_with fail
       obtain ⟨hcell, hist, hrd, hmv⟩ := HW.out
       exact bodyPost_ret (results_cellT rfl _ _ _ ⟨w.heap.size, 0, none⟩ _ rfl (load_node _ _ ⟨36, ⟨#[]⟩, q6.at_, some ⟨w9.heap.size, 0, none⟩, 1, 1⟩ hcell)) rfl ⟨_, rfl, hist, hrd, hmv⟩
      ·skip
       obtain ⟨b0, b1, b2, b3⟩ := HBv8.out.cells
       have HW := Lib.hid (res_world r j8 lv s w w8 q6 v HRB.out HM8.out HS8.out.z HTv8.out HR8.out)
       obtain ⟨d0, d1, d2, d3, f0⟩ := HS8.out.cells
       have hX : Except.ok (v, j8) = X := HX8.out
       clear HX8
       subst hX
       (try unfold ndC)
       go_wp2_with fail
       obtain ⟨hcell, hist, hrd, hmv⟩ := HW.out
       exact bodyPost_ret (results_cellT rfl _ _ _ ⟨w.heap.size, 0, none⟩ _ rfl (load_node _ _ q6 hcell)) rfl ⟨_, rfl, hist, hrd, hmv⟩
     ·skip
      have HXT : Hid (assignM r E j4 = X) := by
       have h1 : (match isB (r.L.getD (j4 + 1) tok0).text ⟨#[61]⟩ with | true => assignM r E | false => valueM r E) j4 = X := h0
       rw [hy] at h1
       exact h1
      obtain ⟨y, HYY⟩ : ∃ y, Hid ((r.L.getD (j4 + 1) tok0).text = y) := ⟨_, rfl⟩
      rw [HYY.out] at hy
      have hyl : (y.toList == [61]) = true := by rw [← hy, isB_lit]
      clear h0 hy HXR
      obtain ⟨kd, HKD⟩ : ∃ kd, Hid ((r.L.getD j4 tok0).kind = kd) := ⟨_, rfl⟩
      obtain ⟨tx, HTX⟩ : ∃ tx, Hid ((r.L.getD j4 tok0).text = tx) := ⟨_, rfl⟩
      obtain ⟨ax, HAX⟩ : ∃ ax, Hid ((r.L.getD j4 tok0).at_ = ax) := ⟨_, rfl⟩
      rw [HKD.out] at hk
      apply wp_region_one 1 19 (fun x y => x = y) (fun x y => Below x.heap.size x y) (fun x => InvR r j4 lv s w4 x) (fun x => True) (fun e x => False)
      case hIA => (rintro x y rfl h; exact h)
      case hIC => (intro x y hl h; exact ⟨h.rd.below hl, h.mv.trans (Mv.of_below hl)⟩)
      case hPA => (intro x y hl h; trivial)
      case hP => (intro k a' W h; exact h.elim)
      case hm => kernel_rfl
      case hB => kernel_rfl
      case h0 => exact ⟨HR4.out.below (Below.drew (Below.refl _ _)), But.drew w4⟩
      case h1 => trivial
      simp only [List.take_succ_cons, List.take_zero, List.drop_succ_cons, List.drop_zero]
      apply wpOne_cons (t := tvIs (.pointer (some ⟨r.b, 0, none⟩))) (tvIs_good _ _)
      case h1 =>
       intro W hI hl
       unfold oneAt
       go_simp
       exact one_is (by decide)
      intro _
      rw [tvIs_f]
      go_simp
      apply wpOne_cons (t := tvIs (.agg (tkC 1 tx ax))) (tvIs_good _ _)
      case h1 =>
       intro W hI hl
       unfold oneAt
       go_simp
       have ht := token_any r j4 lv s W hI.rd
       rw [HKD.out, HTX.out, HAX.out, hk] at ht
       exact tvIs_call ht
      intro _
      rw [tvIs_f]
      unfold tkC
      go_simp
      apply wpOne_cons (t := tvIs (.int .i64 1)) (tvIs_good _ _)
      case h1 =>
       intro W hI hl
       unfold oneAt
       go_simp
       exact one_is (by decide)
      intro _
      rw [tvIs_f]
      go_simp
      apply wpOne_cons (t := tvIs (.bool true)) (tvIs_good _ _)
      case h1 =>
       intro W hI hl
       unfold oneAt
       go_simp
       exact one_is (by decide)
      intro _
      rw [tvIs_f]
      go_simp
      apply wpOne_cons (t := tvIs (.bool true)) (tvIs_good _ _)
      case h1 =>
       intro W hI hl
       unfold oneAt
       go_simp
       exact one_is (by decide)
      intro _
      rw [tvIs_f]
      go_simp
      apply wpOne_cons (t := tvIs (.pointer (some ⟨r.b, 0, none⟩))) (tvIs_good _ _)
      case h1 =>
       intro W hI hl
       unfold oneAt
       go_simp
       exact one_is (by decide)
      intro _
      rw [tvIs_f]
      go_simp
      apply wpOne_cons (t := tvIs (.pointer (some ⟨r.b, 0, none⟩))) (tvIs_good _ _)
      case h1 =>
       intro W hI hl
       unfold oneAt
       go_simp
       exact one_is (by decide)
      intro _
      rw [tvIs_f]
      go_simp
      apply wpOne_cons (t := tvIs (.pointer (some ⟨r.b, 0, none⟩))) (tvIs_good _ _)
      case h1 =>
       intro W hI hl
       unfold oneAt
       go_simp
       exact one_is (by decide)
      intro _
      rw [tvIs_f]
      go_simp
      apply wpOne_cons (t := tvIs (.slice (some ⟨b, off, none⟩) r.L.length r.cap)) (tvIs_good _ _)
      case h1 =>
       intro W hI hl
       obtain ⟨c0, c1, c2, c3, fz⟩ := hI.rd.c
       rw [hp] at c0
       unfold oneAt
       go_simp
       exact one_is (by decide)
      intro _
      rw [tvIs_f]
      go_simp
      apply wpOne_cons (t := tvIs (.pointer (some ⟨r.b, 0, none⟩))) (tvIs_good _ _)
      case h1 =>
       intro W hI hl
       unfold oneAt
       go_simp
       exact one_is (by decide)
      intro _
      rw [tvIs_f]
      go_simp
      apply wpOne_cons (t := tvIs (.pointer (some ⟨r.b, 0, none⟩))) (tvIs_good _ _)
      case h1 =>
       intro W hI hl
       unfold oneAt
       go_simp
       exact one_is (by decide)
      intro _
      rw [tvIs_f]
      go_simp
      apply wpOne_cons (t := tvIs (.pointer (some ⟨r.b, 1, none⟩))) (tvIs_good _ _)
      case h1 =>
       intro W hI hl
       unfold oneAt
       go_simp
       exact one_is (by decide)
      intro _
      rw [tvIs_f]
      go_simp
      apply wpOne_cons (t := tvIs (.int .i64 (j4 : Int))) (tvIs_good _ _)
      case h1 =>
       intro W hI hl
       obtain ⟨c0, c1, c2, c3, fz⟩ := hI.rd.c
       rw [hp] at c0
       unfold oneAt
       go_simp
       exact one_is (by decide)
      intro _
      rw [tvIs_f]
      go_simp
      apply wpOne_cons (t := tvIs (.int .i64 ((j4 + 1 : Nat) : Int))) (tvIs_good _ _)
      case h1 =>
       intro W hI hl
       unfold oneAt
       go_simp
       exact one_is (by decide)
      intro _
      rw [tvIs_f]
      go_simp
      apply wpOne_cons (t := tvIs (.pointer (some ⟨b, off + (j4 + 1) * 3, none⟩))) (tvIs_good _ _)
      case h1 =>
       intro W hI hl
       have hlt2 : (0 : Int) ≤ (j4 : Int) + 1 ∧ (j4 : Int) + 1 < (r.L.length : Int) := by omega
       unfold oneAt
       go_simp
       exact one_is (by decide)
      intro _
      rw [tvIs_f]
      go_simp
      apply wpOne_cons (t := tvIs (.pointer (some ⟨b, off + (j4 + 1) * 3 + 1, none⟩))) (tvIs_good _ _)
      case h1 =>
       intro W hI hl
       unfold oneAt
       go_simp
       exact one_is (by decide)
      intro _
      rw [tvIs_f]
      go_simp
      apply wpOne_cons (t := tvIs (.string y)) (tvIs_good _ _)
      case h1 =>
       intro W hI hl
       obtain ⟨b', off', hp', t0, t1, t2⟩ := hI.rd.tokAt (j4 + 1) hj1
       rw [hp] at hp'
       obtain ⟨rfl, rfl⟩ : b = b' ∧ off = off' := by simpa using hp'
       rw [HYY.out] at t1
       unfold oneAt
       go_simp
       exact one_is (by decide)
      intro _
      rw [tvIs_f]
      go_simp
      apply wpOne_cons (t := tvIs (.bool true)) (tvIs_good _ _)
      case h1 =>
       intro W hI hl
       unfold oneAt
       go_simp
       exact one_is (by decide)
      intro _
      rw [tvIs_f]
      go_simp
      apply wpOne_cons (t := tvIs (.bool true)) (tvIs_good _ _)
      case h1 =>
       intro W hI hl
       unfold oneAt
       go_simp
       exact one_is (by decide)
      intro _
      rw [tvIs_f]
      go_simp
      apply wpOne_nil (Ts := [])
      intro w5 hI hFa
      have hm : Mv r w4 w5 := hI.mv
      have HX5 := HXT
      have HR5 := Lib.hid hI.rd
      have HM5 := Lib.hid (HM4.out.trans hm)
      have HS5 := Lib.hid (HS4.out.mv hm HRB.out)
      clear hI hFa hm HXT HR4 HM4 HS4
      go_wp2_with fail
      refine (HAS1.out j4 w5 HR5.out).mono ?_
      intro e w6 hp
      rcases (RulePost.two (p := assignM r E) hp) with ⟨k, hx, rfl, hm⟩ | ⟨t, j6, hx, q6, rfl, ht, hr, hm⟩
      ·have HM6 := Lib.hid (HM5.out.trans hm)
       have hX := hx.symm.trans HX5.out
       clear hx hm hp
       subst hX
       unfold stopAt
       go_wp2_with fail
       exact ⟨rfl, rfl, HM6.out⟩
      have HX6 := Lib.hid ((hx.symm.trans HX5.out) : Except.ok (t, j6) = X)
      have HR6 := Lib.hid hr
      have HM6 := Lib.hid (HM5.out.trans hm)
      have HS6 := Lib.hid (HS5.out.mv hm HRB.out)
      have HTt6 : Hid (IsT (fun b => w.heap.size < b) w6 q6 t) := ht.mono (fun b hb => HS5.out.up hb)
      unfold ndC
      clear hp hx ht hr hm HX5 HR5 HM5 HS5
      have HW := Lib.hid (res_world r j6 lv s w w6 q6 t HRB.out HM6.out HS6.out.z HTt6.out HR6.out)
      obtain ⟨d0, d1, d2, d3, f0⟩ := HS6.out.cells
      have hX : Except.ok (t, j6) = X := HX6.out
      clear HX6
      subst hX
      (try unfold ndC)
      go_wp2_with fail
      obtain ⟨hcell, hist, hrd, hmv⟩ := HW.out
      exact bodyPost_ret (results_cellT rfl _ _ _ ⟨w.heap.size, 0, none⟩ _ rfl (load_node _ _ q6 hcell)) rfl ⟨_, rfl, hist, hrd, hmv⟩
    ·skip
     have h0 : restS r E (decide ((r.L.getD j4 tok0).kind = 1)) j4 = X := HXR.out
     rw [decide_eq_false hk] at h0
     have HXT : Hid (valueM r E j4 = X) := h0
     clear h0 HXR
     obtain ⟨kd, HKD⟩ : ∃ kd, Hid ((r.L.getD j4 tok0).kind = kd) := ⟨_, rfl⟩
     obtain ⟨tx, HTX⟩ : ∃ tx, Hid ((r.L.getD j4 tok0).text = tx) := ⟨_, rfl⟩
     obtain ⟨ax, HAX⟩ : ∃ ax, Hid ((r.L.getD j4 tok0).at_ = ax) := ⟨_, rfl⟩
     rw [HKD.out] at hk
     have hkb : (kd == 1) = false := by simpa using hk
     apply wp_region_one 1 19 (fun x y => x = y) (fun x y => Below x.heap.size x y) (fun x => InvR r j4 lv s w4 x) (fun x => True) (fun e x => False)
     case hIA => (rintro x y rfl h; exact h)
     case hIC => (intro x y hl h; exact ⟨h.rd.below hl, h.mv.trans (Mv.of_below hl)⟩)
     case hPA => (intro x y hl h; trivial)
     case hP => (intro k a' W h; exact h.elim)
     case hm => kernel_rfl
     case hB => kernel_rfl
     case h0 => exact ⟨HR4.out.below (Below.drew (Below.refl _ _)), But.drew w4⟩
     case h1 => trivial
     simp only [List.take_succ_cons, List.take_zero, List.drop_succ_cons, List.drop_zero]
     apply wpOne_cons (t := tvIs (.pointer (some ⟨r.b, 0, none⟩))) (tvIs_good _ _)
     case h1 =>
      intro W hI hl
      unfold oneAt
      go_simp
      exact one_is (by decide)
     intro _
     rw [tvIs_f]
     go_simp
     apply wpOne_cons (t := tvIs (.agg (tkC kd tx ax))) (tvIs_good _ _)
     case h1 =>
      intro W hI hl
      unfold oneAt
      go_simp
      have ht := token_any r j4 lv s W hI.rd
      rw [HKD.out, HTX.out, HAX.out] at ht
      exact tvIs_call ht
     intro _
     rw [tvIs_f]
     unfold tkC
     go_simp
     apply wpOne_cons (t := tvIs (.int .i64 kd)) (tvIs_good _ _)
     case h1 =>
      intro W hI hl
      unfold oneAt
      go_simp
      exact one_is (by decide)
     intro _
     rw [tvIs_f]
     go_simp
     apply wpOne_cons (t := tvIs (.bool false)) (tvIs_good _ _)
     case h1 =>
      intro W hI hl
      unfold oneAt
      go_simp
      exact one_is (by decide)
     intro _
     rw [tvIs_f]
     go_simp
     apply wpOne_cons (t := tvIs (.bool false)) (tvIs_good _ _)
     case h1 =>
      intro W hI hl
      unfold oneAt
      go_simp
      exact one_is (by decide)
     intro _
     rw [tvIs_f]
     go_simp
     apply wpOne_cons (t := tvIs undef) (tvIs_good _ _)
     case h1 =>
      intro W hI hl
      unfold oneAt
      go_simp
      exact ⟨(), rfl, trivial⟩
     intro _
     rw [tvIs_f]
     go_simp
     apply wpOne_cons (t := tvIs undef) (tvIs_good _ _)
     case h1 =>
      intro W hI hl
      unfold oneAt
      go_simp
      exact ⟨(), rfl, trivial⟩
     intro _
     rw [tvIs_f]
     go_simp
     apply wpOne_cons (t := tvIs undef) (tvIs_good _ _)
     case h1 =>
      intro W hI hl
      unfold oneAt
      go_simp
      exact ⟨(), rfl, trivial⟩
     intro _
     rw [tvIs_f]
     go_simp
     apply wpOne_cons (t := tvIs undef) (tvIs_good _ _)
     case h1 =>
      intro W hI hl
      unfold oneAt
      go_simp
      exact ⟨(), rfl, trivial⟩
     intro _
     rw [tvIs_f]
     go_simp
     apply wpOne_cons (t := tvIs undef) (tvIs_good _ _)
     case h1 =>
      intro W hI hl
      unfold oneAt
      go_simp
      exact ⟨(), rfl, trivial⟩
     intro _
     rw [tvIs_f]
     go_simp
     apply wpOne_cons (t := tvIs undef) (tvIs_good _ _)
     case h1 =>
      intro W hI hl
      unfold oneAt
      go_simp
      exact ⟨(), rfl, trivial⟩
     intro _
     rw [tvIs_f]
     go_simp
     apply wpOne_cons (t := tvIs undef) (tvIs_good _ _)
     case h1 =>
      intro W hI hl
      unfold oneAt
      go_simp
      exact ⟨(), rfl, trivial⟩
     intro _
     rw [tvIs_f]
     go_simp
     apply wpOne_cons (t := tvIs undef) (tvIs_good _ _)
     case h1 =>
      intro W hI hl
      unfold oneAt
      go_simp
      exact ⟨(), rfl, trivial⟩
     intro _
     rw [tvIs_f]
     go_simp
     apply wpOne_cons (t := tvIs undef) (tvIs_good _ _)
     case h1 =>
      intro W hI hl
      unfold oneAt
      go_simp
      exact ⟨(), rfl, trivial⟩
     intro _
     rw [tvIs_f]
     go_simp
     apply wpOne_cons (t := tvIs undef) (tvIs_good _ _)
     case h1 =>
      intro W hI hl
      unfold oneAt
      go_simp
      exact ⟨(), rfl, trivial⟩
     intro _
     rw [tvIs_f]
     go_simp
     apply wpOne_cons (t := tvIs undef) (tvIs_good _ _)
     case h1 =>
      intro W hI hl
      unfold oneAt
      go_simp
      exact ⟨(), rfl, trivial⟩
     intro _
     rw [tvIs_f]
     go_simp
     apply wpOne_cons (t := tvIs undef) (tvIs_good _ _)
     case h1 =>
      intro W hI hl
      unfold oneAt
      go_simp
      exact ⟨(), rfl, trivial⟩
     intro _
     rw [tvIs_f]
     go_simp
     apply wpOne_cons (t := tvIs undef) (tvIs_good _ _)
     case h1 =>
      intro W hI hl
      unfold oneAt
      go_simp
      exact ⟨(), rfl, trivial⟩
     intro _
     rw [tvIs_f]
     go_simp
     apply wpOne_cons (t := tvIs (.bool false)) (tvIs_good _ _)
     case h1 =>
      intro W hI hl
      unfold oneAt
      go_simp
      exact one_is (by decide)
     intro _
     rw [tvIs_f]
     go_simp
     apply wpOne_nil (Ts := [])
     intro w5 hI hFa
     have hm : Mv r w4 w5 := hI.mv
     have HX5 := HXT
     have HR5 := Lib.hid hI.rd
     have HM5 := Lib.hid (HM4.out.trans hm)
     have HS5 := Lib.hid (HS4.out.mv hm HRB.out)
     clear hI hFa hm HXT HR4 HM4 HS4
     go_wp2_with fail
     have HX5' : Hid (bindM E (fun v => bindM (isM r ⟨#[125]⟩) fun b => match b with | true => pureM v | false => bindM (needM r ⟨#[59]⟩) fun _ => ndM 36 ⟨#[]⟩ v.at_ [v]) j4 = X) := HX5
     clear HX5
     have HX5 := HX5'
     clear HX5'
     refine (HE1.out j4 w5 HR5.out).mono ?_
     intro e w6 hp
     rcases (RulePost.two (p := E) hp) with ⟨k, hx, rfl, hm⟩ | ⟨v, j6, hx, q6, rfl, ht, hr, hm⟩
     ·have HM6 := Lib.hid (HM5.out.trans hm)
      have hX := bindM_err hx HX5.out
      clear hx hm
      subst hX
      unfold stopAt
      go_wp2_with fail
      exact ⟨rfl, rfl, HM6.out⟩
     have HX6 := Lib.hid (bindM_ok hx HX5.out)
     have HR6 := Lib.hid hr
     have HM6 := Lib.hid (HM5.out.trans hm)
     have HS6 := Lib.hid (HS5.out.mv hm HRB.out)
     have HTv6 : Hid (IsT (fun b => w.heap.size < b) w6 q6 v) := ht.mono (fun b hb => HS5.out.up hb)
     unfold ndC
     clear hp hx ht hr hm HX5 HR5 HM5 HS5
     go_wp2_with fail
     have hb := boxB w6 (.cells #[.int .i64 q6.kind, .string q6.text, .int .i64 q6.at_, .slice q6.p q6.n q6.cap] 37)
     have hm : Mv r w6 (w6.alloc (.cells #[.int .i64 q6.kind, .string q6.text, .int .i64 q6.at_, .slice q6.p q6.n q6.cap] 37)) := Mv.of_below hb
     have HX7 := HX6
     have HR7 := Lib.hid (HR6.out.below hb)
     have HM7 := Lib.hid (HM6.out.trans hm)
     have HS7 := Lib.hid (HS6.out.mv hm HRB.out)
     have HTv7 := Lib.hid (HTv6.out.mvB hm HRB.out)
     have HBv7 : Hid (BoxAt r w w6.heap.size q6 (w6.alloc (.cells #[.int .i64 q6.kind, .string q6.text, .int .i64 q6.at_, .slice q6.p q6.n q6.cap] 37))) := ⟨heap_alloc_new w6 _, HS6.out.up (Nat.le_refl _), HRB.out⟩
     clear hb hm HX6 HR6 HM6 HS6 HTv6
     have hsz : (w6.alloc (.cells #[.int .i64 q6.kind, .string q6.text, .int .i64 q6.at_, .slice q6.p q6.n q6.cap] 37)).heap.size = w6.heap.size + 1 := by simp
     obtain ⟨gv, hgv⟩ : ∃ g, w6.heap.size = g := ⟨_, rfl⟩
     rw [hgv] at HBv7 hsz
     generalize w6.alloc (.cells #[.int .i64 q6.kind, .string q6.text, .int .i64 q6.at_, .slice q6.p q6.n q6.cap] 37) = w7 at *
     rw [hgv]
     have HSZ7 := Lib.hid hsz
     clear hgv hsz
     refine (is_x r j6 lv s ⟨#[125]⟩ w7 HR7.out).mono ?_
     rintro e w8 ⟨b, j8, hx, rfl, hr, hm⟩
     have HX8 := Lib.hid (bindM_ok hx HX7.out)
     have HR8 := Lib.hid hr
     have HM8 := Lib.hid (HM7.out.trans hm)
     have HS8 := Lib.hid (HS7.out.mv hm HRB.out)
     have HTv8 := Lib.hid (HTv7.out.mvB hm HRB.out)
     have HBv8 := Lib.hid (HBv7.out.mvB hm HRB.out)
     clear hx hr hm HX7 HR7 HM7 HS7 HTv7 HBv7
     cases b
     ·skip
      go_wp2_with fail
      refine (need_x r j8 lv s ⟨#[59]⟩ w8 HR8.out HE.out (by decide)).mono ?_
      rintro e w9 (⟨k, hx, rfl, hm⟩ | ⟨_, j9, hx, rfl, hr, hm⟩)
      ·have HM9 := Lib.hid (HM8.out.trans hm)
       have hX := bindM_err hx HX8.out
       clear hx hm
       subst hX
       unfold stopAt
       go_wp2_with fail
       exact ⟨rfl, rfl, HM9.out⟩
      have HX9 := Lib.hid (bindM_ok hx HX8.out)
      have HR9 := Lib.hid hr
      have HM9 := Lib.hid (HM8.out.trans hm)
      have HS9 := Lib.hid (HS8.out.mv hm HRB.out)
      have HTv9 := Lib.hid (HTv8.out.mvB hm HRB.out)
      have HBv9 := Lib.hid (HBv8.out.mvB hm HRB.out)
      clear hx hr hm HX8 HR8 HM8 HS8 HTv8 HBv8
      obtain ⟨b0v, b1v, b2v, b3v⟩ := HBv9.out.cells
      go_wp2_with fail
      rw [← HTv9.out.parts.2.2.1] at HX9
      have hb := boxB w9 (.cells #[.int .i64 q6.kind, .string q6.text, .int .i64 q6.at_, .slice q6.p q6.n q6.cap] 37)
      have hm : Mv r w9 (w9.alloc (.cells #[.int .i64 q6.kind, .string q6.text, .int .i64 q6.at_, .slice q6.p q6.n q6.cap] 37)) := Mv.of_below hb
      have HR10 := Lib.hid (HR9.out.below hb)
      have HM10 := Lib.hid (HM9.out.trans hm)
      have HS10 := Lib.hid (HS9.out.mv hm HRB.out)
      have hlt := lt_heap HS9.out.z
      have HL10 : Hid (IsTs (fun b => w.heap.size < b) (w9.alloc (.cells #[.int .i64 q6.kind, .string q6.text, .int .i64 q6.at_, .slice q6.p q6.n q6.cap] 37)) (.slice (some ⟨w9.heap.size, 0, none⟩) 1 1) [v]) := by
       refine IsTs.row _ [q6] _ rfl rfl rfl (by decide) (by decide) hlt (fun i h1 h2 => ?_)
       match i, h1, h2 with
       | 0, _, _ => exact HTv9.out
       | i + 1, h1, _ => exact absurd h1 (by simp)
      clear hb hm hlt HR9 HM9 HS9 HTv9 HBv9
      have HX10 := HX9
      clear HX9
      obtain ⟨g10, hg10⟩ : ∃ g, w9.heap.size = g := ⟨_, rfl⟩
      clear hg10
      generalize w9.alloc (.cells #[.int .i64 q6.kind, .string q6.text, .int .i64 q6.at_, .slice q6.p q6.n q6.cap] 37) = w10 at *
      refine (node_any 36 ⟨#[]⟩ q6.at_ (some ⟨w9.heap.size, 0, none⟩) 1 1 w10).mono ?_
      rintro e w11 ⟨rfl, hb⟩
      have hm : Mv r w10 w11 := Mv.of_below hb
      have HX11 := HX10
      have HR11 := Lib.hid (HR10.out.below hb)
      have HM11 := Lib.hid (HM10.out.trans hm)
      have HS11 := Lib.hid (HS10.out.mv hm HRB.out)
      have HL11 := Lib.hid (HL10.out.mvB hm HRB.out)
      clear hb hm HX10 HR10 HM10 HS10 HL10
      have HW := Lib.hid (res_world r j9 lv s w w11 ⟨36, ⟨#[]⟩, q6.at_, some ⟨w9.heap.size, 0, none⟩, 1, 1⟩ (.mk 36 ⟨#[]⟩ q6.at_ [v]) HRB.out HM11.out HS11.out.z (IsT.node _ _ _ HL11.out) HR11.out)
      obtain ⟨d0, d1, d2, d3, f0⟩ := HS11.out.cells
      have hX : Except.ok ((.mk 36 ⟨#[]⟩ q6.at_ [v]), j9) = X := HX11.out
      clear HX11
      subst hX
      (try unfold ndC)
      go_wp2_with fail
      obtain ⟨hcell, hist, hrd, hmv⟩ := HW.out
      exact bodyPost_ret (results_cellT rfl _ _ _ ⟨w.heap.size, 0, none⟩ _ rfl (load_node _ _ ⟨36, ⟨#[]⟩, q6.at_, some ⟨w9.heap.size, 0, none⟩, 1, 1⟩ hcell)) rfl ⟨_, rfl, hist, hrd, hmv⟩
     ·skip
      obtain ⟨b0, b1, b2, b3⟩ := HBv8.out.cells
      have HW := Lib.hid (res_world r j8 lv s w w8 q6 v HRB.out HM8.out HS8.out.z HTv8.out HR8.out)
      obtain ⟨d0, d1, d2, d3, f0⟩ := HS8.out.cells
      have hX : Except.ok (v, j8) = X := HX8.out
      clear HX8
      subst hX
      (try unfold ndC)
      go_wp2_with fail
      obtain ⟨hcell, hist, hrd, hmv⟩ := HW.out
      exact bodyPost_ret (results_cellT rfl _ _ _ ⟨w.heap.size, 0, none⟩ _ rfl (load_node _ _ q6 hcell)) rfl ⟨_, rfl, hist, hrd, hmv⟩
   ·go_wp2_with fail
    refine (HPR1.out j4 w4 HR4.out).mono ?_
    intro e w5 hp
    rcases (RulePost.two (p := printM r E) hp) with ⟨k, hx, rfl, hm⟩ | ⟨t, j5, hx, q5, rfl, ht, hr, hm⟩
    ·have HM5 := Lib.hid (HM4.out.trans hm)
     have hX := hx.symm.trans HX4.out
     clear hx hm hp
     subst hX
     unfold stopAt
     go_wp2_with fail
     exact ⟨rfl, rfl, HM5.out⟩
    have HX5 := Lib.hid ((hx.symm.trans HX4.out) : Except.ok (t, j5) = X)
    have HR5 := Lib.hid hr
    have HM5 := Lib.hid (HM4.out.trans hm)
    have HS5 := Lib.hid (HS4.out.mv hm HRB.out)
    have HTt5 : Hid (IsT (fun b => w.heap.size < b) w5 q5 t) := ht.mono (fun b hb => HS4.out.up hb)
    unfold ndC
    clear hp hx ht hr hm HX4 HR4 HM4 HS4
    have HW := Lib.hid (res_world r j5 lv s w w5 q5 t HRB.out HM5.out HS5.out.z HTt5.out HR5.out)
    obtain ⟨d0, d1, d2, d3, f0⟩ := HS5.out.cells
    have hX : Except.ok (t, j5) = X := HX5.out
    clear HX5
    subst hX
    (try unfold ndC)
    go_wp2_with fail
    obtain ⟨hcell, hist, hrd, hmv⟩ := HW.out
    exact bodyPost_ret (results_cellT rfl _ _ _ ⟨w.heap.size, 0, none⟩ _ rfl (load_node _ _ q5 hcell)) rfl ⟨_, rfl, hist, hrd, hmv⟩
  ·go_wp2_with fail
   refine (HWH1.out j3 w3 HR3.out).mono ?_
   intro e w4 hp
   rcases (RulePost.two (p := whileM r E Bk) hp) with ⟨k, hx, rfl, hm⟩ | ⟨t, j4, hx, q4, rfl, ht, hr, hm⟩
   ·have HM4 := Lib.hid (HM3.out.trans hm)
    have hX := hx.symm.trans HX3.out
    clear hx hm hp
    subst hX
    unfold stopAt
    go_wp2_with fail
    exact ⟨rfl, rfl, HM4.out⟩
   have HX4 := Lib.hid ((hx.symm.trans HX3.out) : Except.ok (t, j4) = X)
   have HR4 := Lib.hid hr
   have HM4 := Lib.hid (HM3.out.trans hm)
   have HS4 := Lib.hid (HS3.out.mv hm HRB.out)
   have HTt4 : Hid (IsT (fun b => w.heap.size < b) w4 q4 t) := ht.mono (fun b hb => HS3.out.up hb)
   unfold ndC
   clear hp hx ht hr hm HX3 HR3 HM3 HS3
   have HW := Lib.hid (res_world r j4 lv s w w4 q4 t HRB.out HM4.out HS4.out.z HTt4.out HR4.out)
   obtain ⟨d0, d1, d2, d3, f0⟩ := HS4.out.cells
   have hX : Except.ok (t, j4) = X := HX4.out
   clear HX4
   subst hX
   (try unfold ndC)
   go_wp2_with fail
   obtain ⟨hcell, hist, hrd, hmv⟩ := HW.out
   exact bodyPost_ret (results_cellT rfl _ _ _ ⟨w.heap.size, 0, none⟩ _ rfl (load_node _ _ q4 hcell)) rfl ⟨_, rfl, hist, hrd, hmv⟩
 ·go_wp2_with fail
  refine (HLE1.out j2 w2 HR2.out).mono ?_
  intro e w3 hp
  rcases (RulePost.two (p := letM r E) hp) with ⟨k, hx, rfl, hm⟩ | ⟨t, j3, hx, q3, rfl, ht, hr, hm⟩
  ·have HM3 := Lib.hid (HM2.out.trans hm)
   have hX := hx.symm.trans HX2.out
   clear hx hm hp
   subst hX
   unfold stopAt
   go_wp2_with fail
   exact ⟨rfl, rfl, HM3.out⟩
  have HX3 := Lib.hid ((hx.symm.trans HX2.out) : Except.ok (t, j3) = X)
  have HR3 := Lib.hid hr
  have HM3 := Lib.hid (HM2.out.trans hm)
  have HS3 := Lib.hid (HS2.out.mv hm HRB.out)
  have HTt3 : Hid (IsT (fun b => w.heap.size < b) w3 q3 t) := ht.mono (fun b hb => HS2.out.up hb)
  unfold ndC
  clear hp hx ht hr hm HX2 HR2 HM2 HS2
  have HW := Lib.hid (res_world r j3 lv s w w3 q3 t HRB.out HM3.out HS3.out.z HTt3.out HR3.out)
  obtain ⟨d0, d1, d2, d3, f0⟩ := HS3.out.cells
  have hX : Except.ok (t, j3) = X := HX3.out
  clear HX3
  subst hX
  (try unfold ndC)
  go_wp2_with fail
  obtain ⟨hcell, hist, hrd, hmv⟩ := HW.out
  exact bodyPost_ret (results_cellT rfl _ _ _ ⟨w.heap.size, 0, none⟩ _ rfl (load_node _ _ q3 hcell)) rfl ⟨_, rfl, hist, hrd, hmv⟩
end Go.Proofs.YtheigpiffdabnaaGreat
namespace Go.Proofs.YtheigpiffdabnaaGreat
open Go Go.RowKit
attribute [local go_sem] field_tok0 field_tok1 field_tok2
theorem bindM_assoc {α β γ : Type} (p : PM α) (f : α → PM β) (g : β → PM γ) : bindM (bindM p f) g = bindM p (fun x => bindM (f x) g) := by
 funext i
 unfold bindM
 cases p i with
 | error k => rfl
 | ok z => rfl
set_option maxRecDepth 100000 in
set_option maxHeartbeats 1000000 in
theorem isStmt_any (q : Raw) (w : World) :
  Calls Tryz.prog 94 #[.agg (ndC q)] w fun e w' => e = .returned (.bool (isStmtK q.kind)) ∧ Below w.heap.size w w' := by
 have HB := Lib.hid (boxB w (.cells (ndC q) 37))
 unfold ndC at HB ⊢
 by_cases h32 : q.kind = 32
 ·have hs : isStmtK q.kind = true := by simp [isStmtK, h32]
  rw [hs]
  have e1 : (q.kind == 32) = true := by simp [h32]
  rw [h32] at HB ⊢
  go_enter Tryz.func94, Tryz.ntmps94
  go_wp2_with fail
  go_ret
  exact ⟨rfl, HB.out⟩
 by_cases h33 : q.kind = 33
 ·have hs : isStmtK q.kind = true := by simp [isStmtK, h33]
  rw [hs]
  rw [h33] at HB ⊢
  go_enter Tryz.func94, Tryz.ntmps94
  go_wp2_with fail
  go_ret
  exact ⟨rfl, HB.out⟩
 by_cases h34 : q.kind = 34
 ·have hs : isStmtK q.kind = true := by simp [isStmtK, h34]
  rw [hs]
  rw [h34] at HB ⊢
  go_enter Tryz.func94, Tryz.ntmps94
  go_wp2_with fail
  go_ret
  exact ⟨rfl, HB.out⟩
 by_cases h35 : q.kind = 35
 ·have hs : isStmtK q.kind = true := by simp [isStmtK, h35]
  rw [hs]
  rw [h35] at HB ⊢
  go_enter Tryz.func94, Tryz.ntmps94
  go_wp2_with fail
  go_ret
  exact ⟨rfl, HB.out⟩
 by_cases h36 : q.kind = 36
 ·have hs : isStmtK q.kind = true := by simp [isStmtK, h36]
  rw [hs]
  rw [h36] at HB ⊢
  go_enter Tryz.func94, Tryz.ntmps94
  go_wp2_with fail
  go_ret
  exact ⟨rfl, HB.out⟩
 ·have hs : isStmtK q.kind = false := by simp [isStmtK, h32, h33, h34, h35, h36]
  rw [hs]
  have e2 : (q.kind == 32) = false := by simpa using h32
  have e3 : (q.kind == 33) = false := by simpa using h33
  have e4 : (q.kind == 34) = false := by simpa using h34
  have e5 : (q.kind == 35) = false := by simpa using h35
  have e6 : (q.kind == 36) = false := by simpa using h36
  go_enter Tryz.func94, Tryz.ntmps94
  go_wp2_with fail
  go_ret
  exact ⟨rfl, HB.out⟩
theorem isM_eq {r : Rdr} {sg : ByteArray} {i j : Nat} {b : Bool} (h : isM r sg i = .ok (b, j)) : isMark r i sg = b ∧ j = i := by
 unfold isM at h
 simp only [Except.ok.injEq, Prod.mk.injEq] at h
 exact ⟨h.1, h.2.symm⟩
theorem noValue_last {l : List Tree} (h : 0 < l.length) : noValue l = isStmtK (l[l.length - 1]'(by omega)).kind := by
 unfold noValue
 rw [List.getLast?_eq_getElem?, List.getElem?_eq_getElem (by omega)]
theorem Nodes.sliceN {B : Nat} {w : World} {v : Value} {ts : List Tree} (h : Nodes B w v ts) : ∃ p n cap, v = .slice p n cap := by
 obtain ⟨p, cap, hv, _⟩ := h.slice
 exact ⟨p, _, cap, hv⟩
theorem few_push {l : List Tree} {t : Tree} {j : Nat} (h : l.length ≤ j) : (l ++ [t]).length ≤ j + 1 := by
 rw [List.length_append]
 exact Nat.add_le_add_right h 1
/-- what a block is behind its statements -/
def blockK (r : Rdr) (a : Int) (l : List Tree) : PM Tree := bindM (takeM r) fun x => ndM 30 ⟨#[]⟩ a (if noValue l = true then l ++ [.mk 31 ⟨#[]⟩ x.at_ []] else l)
/-- what stands at each round of a loop that collects nodes -/
structure Coll (r : Rdr) (w ws : World) (lv : Nat) (s : Bool) (j : Nat) (l : List Tree) (v : Value) (W : World) : Prop where
 nodes : Nodes ws.heap.size W v l
 rd : RdAt r j lv s W
 mv : Mv r ws W
 res : ResAt w W
 few : l.length ≤ j + 1
 rb : r.b < w.heap.size
 hw : w.heap.size < ws.heap.size
theorem Coll.on {r : Rdr} {w ws : World} {lv : Nat} {s : Bool} {j j' : Nat} {l : List Tree} {v : Value} {W W' : World} (h : Coll r w ws lv s j l v W) (hr : RdAt r j' lv s W') (hm : Mv r W W') (hj : j ≤ j') : Coll r w ws lv s j' l v W' :=
 ⟨h.nodes.mv hm (by have := h.rb; have := h.hw; omega), hr, h.mv.trans hm, h.res.mv hm h.rb, by have := h.few; omega, h.rb, h.hw⟩
theorem Coll.nextOf {r : Rdr} {w ws : World} {lv : Nat} {s : Bool} {j : Nat} {l : List Tree} {v : Value} {W : World} (h : Coll r w ws lv s j l v W) : nextOf r W = j := h.rd.nextOf
set_option maxRecDepth 100000 in
set_option maxHeartbeats 2000000 in
theorem block_any (r : Rdr) (i lv : Nat) (s : Bool) (E Bk : PM Tree) (w : World) (h : RdAt r i lv s w) (hE : EndAt r) (hup : UpS (stmtM r E Bk))
  (HST : ∀ a w1, RdAt r a lv s w1 → Calls Tryz.prog 93 #[.pointer (some ⟨r.b, 0, none⟩)] w1 (RulePost r (stmtM r E Bk a) lv s w1)) :
  Calls Tryz.prog 89 #[.pointer (some ⟨r.b, 0, none⟩)] w (RulePost r (blockM r E Bk i) lv s w) := by
 have HRB : Hid (r.b < w.heap.size) := lt_heap h.cells
 have HR1 := Lib.hid (h.below (boxB w (.cells #[.int .i64 0, .string ⟨#[]⟩, .int .i64 0, .slice none 0 0] 37)))
 have HM1 := Lib.hid (Mv.of_below (r := r) (boxB w (.cells #[.int .i64 0, .string ⟨#[]⟩, .int .i64 0, .slice none 0 0] 37)))
 have HS1 := Lib.hid (ResAt.start w)
 have HW1 : Hid (w.heap.size < (w.alloc (.cells #[.int .i64 0, .string ⟨#[]⟩, .int .i64 0, .slice none 0 0] 37)).heap.size) := by show _ < _; simp
 generalize hX0 : blockM r E Bk i = X
 unfold blockM at hX0
 have HX1 := Lib.hid hX0
 have HE := Lib.hid hE
 have HPP := Lib.hid HST
 have HUP := Lib.hid hup
 clear hX0 h hE HST hup
 go_enter Tryz.func89, Tryz.ntmps89
 go_wp2_with fail
 generalize w.alloc (.cells #[.int .i64 0, .string ⟨#[]⟩, .int .i64 0, .slice none 0 0] 37) = w1 at *
 refine (here_x r i lv s w1 HR1.out).mono ?_
 rintro e w2 ⟨a, j2, hx, rfl, hr, hm⟩
 have HX2 := Lib.hid (bindM_ok hx HX1.out)
 have HR2 := Lib.hid hr
 have HM2 : Hid (Mv r w1 w2) := hm
 clear hx hr hm HX1
 go_wp2_with fail
 refine (need_x r j2 lv s ⟨#[123]⟩ w2 HR2.out HE.out (by decide)).mono ?_
 rintro e w3 (⟨k, hx, rfl, hm⟩ | ⟨u, j3, hx, rfl, hr, hm⟩)
 ·have HM3 := Lib.hid (HM1.out.trans (HM2.out.trans hm))
  have hX := bindM_err hx HX2.out
  clear hx hm
  subst hX
  unfold stopAt
  go_wp2_with fail
  exact ⟨rfl, rfl, HM3.out⟩
 have hX3 := bindM_ok hx HX2.out
 have HC3 : Hid (Coll r w w1 lv s j3 [] (.slice none 0 0) w3) := ⟨⟨[], OwnL.isNil _ _ _ _, rfl, fun i h => absurd h (by simp)⟩, hr, HM2.out.trans hm, HS1.out.mv (HM2.out.trans hm) HRB.out, by simp, HRB.out, HW1.out⟩
 have HX3 : Hid (bindM (stmtsM r E Bk (r.L.length + 1) []) (blockK r a) j3 = X) := hX3
 clear hx hr hm HR2 HM2 HX2 hX3 HR1 HW1
 go_wp2_with fail
 go_loopw [4] (fun v wr => ∃ (j f : Nat) (l : List Tree), Hid (Coll r w w1 lv s j l v wr) ∧ r.L.length ≤ f + j ∧ Hid (bindM (stmtsM r E Bk f l) (blockK r a) j = X)) (fun v wr => r.L.length - nextOf r wr)
 case atStart => exact ⟨j3, r.L.length + 1, [], HC3.out, by omega, HX3.out⟩
 case round =>
  obtain ⟨j, f, l, HC, hf, HX⟩ := hrel
  clear HC3 HX3
  have hnx : nextOf r wr = j := HC.out.nextOf
  have HNX := Lib.hid hnx
  have hjl := HC.out.rd.lt
  obtain ⟨f', rfl⟩ : ∃ f', f = f' + 1 := ⟨f - 1, by omega⟩
  have HX0 : Hid (bindM (isM r ⟨#[125]⟩) (fun b => bindM (match b with | true => pureM l | false => bindM (stmtM r E Bk) fun t => stmtsM r E Bk f' (l ++ [t])) (blockK r a)) j = X) := by
   have := HX.out
   unfold stmtsM at this
   rw [bindM_assoc] at this
   exact this
  clear HX hnx
  obtain ⟨p, cap, hve, hpc, hpb⟩ := HC.out.nodes.slice
  subst hve
  clear hpc hpb
  go_wp2_with fail
  refine (is_x r j lv s ⟨#[125]⟩ wr HC.out.rd).mono ?_
  rintro e w4 ⟨b, j4, hx, rfl, hr, hm⟩
  have hj4 : j ≤ j4 := up_is r _ _ _ _ hx
  obtain ⟨hmk, hje⟩ := isM_eq hx
  have hX4 := bindM_ok hx HX0.out
  have HC4 := Lib.hid (HC.out.on hr hm hj4)
  clear hr hm HX0 HC hx
  cases b
  ·have HX4 : Hid (bindM (stmtM r E Bk) (fun t => bindM (stmtsM r E Bk f' (l ++ [t])) (blockK r a)) j4 = X) := by
    show _ = _
    rw [← hX4]
    show _ = bindM (bindM (stmtM r E Bk) fun t => stmtsM r E Bk f' (l ++ [t])) (blockK r a) j4
    rw [bindM_assoc]
   clear hX4
   go_wp2_with fail
   refine (HPP.out j4 w4 HC4.out.rd).mono ?_
   intro e w5 hp
   rcases (RulePost.two (p := stmtM r E Bk) hp) with ⟨k, hx, rfl, hm⟩ | ⟨t, j5, hx, q5, rfl, ht, hr, hm⟩
   ·have HM5 := Lib.hid (HM1.out.trans (HC4.out.mv.trans hm))
    have hX := bindM_err hx HX4.out
    clear hx hm hp
    subst hX
    unfold stopAt
    go_wp2_with fail
    exact ⟨rfl, rfl, HM5.out⟩
   ·have HX5 := Lib.hid (bindM_ok hx HX4.out)
    have hjj : j4 < j5 := HUP.out _ _ _ hx
    have HC5 := Lib.hid (HC4.out.on hr hm (Nat.le_of_lt hjj))
    have HT5 : Hid (IsT (fun b => w1.heap.size ≤ b ∧ (Value.slice p l.length cap).ownBlock ≠ some b) w5 q5 t) := ht.mono (fun b hb => ⟨Nat.le_trans HC4.out.mv.size hb, fun e => by have := HC4.out.nodes.own_lt b e; omega⟩)
    have hfew := HC4.out.few
    have hr20 := HC4.out.rd.few
    have hj4l := HC4.out.rd.lt
    have HRB1 : Hid (r.b < w1.heap.size) := by have h1 := HC4.out.rb; have h2 := HC4.out.hw; exact Nat.lt_trans h1 h2
    unfold ndC
    clear hx ht hr hm hp HX4 HC4
    go_wp2_with (at_builtin; go_must (refine wpList_pushN (o := ⟨some 17, _, _, _, _, _⟩) rfl (.tmp 13) (.tmp 16) rfl HC5.out.nodes HT5.out HC5.out.rd HC5.out.mv HRB1.out (by omega) rfl rfl rfl ?_; intro v' w' hn6 hr6 hm6; have HN6 := Lib.hid hn6; have HR6 := Lib.hid hr6; have HM6 := Lib.hid hm6; clear hn6 hr6 hm6))
    go_roundw
    case rel => exact ⟨j5, f', l ++ [t], ⟨HN6.out, HR6.out, HM6.out, HS1.out.mv HM6.out HRB.out, by simp; omega, HRB.out, HC5.out.hw⟩, by omega, HX5.out⟩
    case measure => rw [HR6.out.nextOf, HNX.out]; omega
  ·have HX4 : Hid (blockK r a l j4 = X) := hX4
   clear hX4
   subst hje
   have hj1 := HE.out.mark HC4.out.rd.lt hmk (by decide)
   go_wp2_with fail
   refine (take_x r j4 lv s w4 HC4.out.rd hj1).mono ?_
   rintro e w5 ⟨x, j5, hx, rfl, hr, hm⟩
   have hjj := ups_take r _ _ _ hx
   have HX5 := Lib.hid (bindM_ok hx HX4.out)
   have HC5 := Lib.hid (HC4.out.on hr hm (Nat.le_of_lt hjj))
   have HFL : Hid (l.length ≤ j5) := by have := HC4.out.few; show _ ≤ _; omega
   clear hx hr hm HX4 HC4 hmk hj1
   unfold tkC
   by_cases hl : l = []
   ·subst hl
    have hX : Except.ok (.mk 30 ⟨#[]⟩ a ([] ++ [.mk 31 ⟨#[]⟩ x.at_ []]), j5) = X := HX5.out
    clear HX5
    subst hX
    simp only [List.length_nil] at *
    go_wp2_with fail
    refine (node_any 31 ⟨#[]⟩ x.at_ none 0 0 w5).mono ?_
    rintro e w6 ⟨rfl, hb⟩
    have HCU := Lib.hid (HC5.out.on (HC5.out.rd.below hb) (Mv.of_below hb) (Nat.le_refl _))
    have HTU : Hid (IsT (fun k => w1.heap.size ≤ k ∧ (Value.slice p 0 cap).ownBlock ≠ some k) w6 ⟨31, ⟨#[]⟩, x.at_, none, 0, 0⟩ (.mk 31 ⟨#[]⟩ x.at_ [])) := IsT.leaf _ _ _ _ _
    have hfew := HCU.out.few
    have hr20 := HCU.out.rd.few
    have hjl5 := HCU.out.rd.lt
    have HRB1 : Hid (r.b < w1.heap.size) := by have h1 := HCU.out.rb; have h2 := HCU.out.hw; exact Nat.lt_trans h1 h2
    clear hb
    unfold ndC
    go_wp2_with (at_builtin; go_must (refine wpList_pushN (o := ⟨some 37, _, _, _, _, _⟩) rfl (.tmp 33) (.tmp 36) rfl HCU.out.nodes HTU.out HCU.out.rd HCU.out.mv HRB1.out (by omega) rfl rfl rfl ?_; intro v' w7 hn6 hr6 hm6; have HC7 : Hid (Coll r w w1 lv s j5 ([] ++ [.mk 31 ⟨#[]⟩ x.at_ []]) v' w7) := ⟨hn6, hr6, hm6, HS1.out.mv hm6 HRB.out, few_push HFL.out, HRB.out, HCU.out.hw⟩; clear hn6 hr6 hm6; obtain ⟨p', n', cap', hve'⟩ := HC7.out.nodes.sliceN; subst hve'))
    refine (node_any 30 ⟨#[]⟩ a p' n' cap' w7).mono ?_
    rintro e w8 ⟨rfl, hb⟩
    have hm : Mv r w7 w8 := Mv.of_below hb
    have HCZ := Lib.hid (HC7.out.on (HC7.out.rd.below hb) hm (Nat.le_refl _))
    have HIZ : Hid (IsTs (fun b => w.heap.size < b) w8 (.slice p' n' cap') ([] ++ [.mk 31 ⟨#[]⟩ x.at_ []])) := HCZ.out.nodes.list.mono (fun b hb => Nat.lt_of_lt_of_le HCZ.out.hw hb)
    have HW := Lib.hid (res_world r j5 lv s w w8 ⟨30, ⟨#[]⟩, a, p', n', cap'⟩ (.mk 30 ⟨#[]⟩ a ([] ++ [.mk 31 ⟨#[]⟩ x.at_ []])) HRB.out (HM1.out.trans HCZ.out.mv) HCZ.out.res.z (IsT.node _ _ _ HIZ.out) HCZ.out.rd)
    obtain ⟨d0, d1, d2, d3, f0⟩ := HCZ.out.res.cells
    clear hb hm
    unfold ndC
    go_wp2_with fail
    obtain ⟨hcell, hist, hrd, hmv⟩ := HW.out
    exact bodyPost_ret (results_cellT rfl _ _ _ ⟨w.heap.size, 0, none⟩ _ rfl (load_node _ _ ⟨30, ⟨#[]⟩, a, p', n', cap'⟩ hcell)) rfl ⟨_, rfl, hist, hrd, hmv⟩
   ·have hl0 : 0 < l.length := List.length_pos_iff.2 hl
    obtain ⟨hn, hat⟩ := HC5.out.nodes.list.at_
    obtain ⟨b, off, q, hp, hq, c0, c1, c2, c3⟩ := hat (l.length - 1) (by omega)
    have hkq : q.kind = (l[l.length - 1]'(by omega)).kind := hq.parts.1
    have hnv : noValue l = isStmtK q.kind := by rw [noValue_last hl0, hkq]
    subst hp
    have hn0 : ((l.length : Nat) : Int) ≠ 0 := by omega
    have hn0b : (((l.length : Nat) : Int) == 0) = false := by simpa using hn0
    have hfewc := HC5.out.few
    have hr20c := HC5.out.rd.few
    have hjlc := HC5.out.rd.lt
    have hwr : IntKind.i64.wrap ((l.length : Int) - 1) = ((l.length - 1 : Nat) : Int) := by rw [IntWalk.i64_in _ (by omega)]; omega
    have hin : (0 : Int) ≤ ((l.length - 1 : Nat) : Int) ∧ ((l.length - 1 : Nat) : Int) < (l.length : Int) := by omega
    have hin2 : ((l.length - 1 : Nat) : Int) < (l.length : Int) := by omega
    clear hat hkq hq hfewc hr20c hjlc hn hl
    have HHN := Lib.hid hnv
    have HL0 := Lib.hid hl0
    clear hnv hl0
    go_wp2_with fail
    refine (isStmt_any q w5).mono ?_
    rintro e w6 ⟨rfl, hb⟩
    have HC6 := Lib.hid (HC5.out.on (HC5.out.rd.below hb) (Mv.of_below hb) (Nat.le_refl _))
    clear hb c0 c1 c2 c3 hn0 hn0b hwr hin hin2
    cases hs : isStmtK q.kind
    ·have hX : Except.ok (.mk 30 ⟨#[]⟩ a l, j5) = X := by have h := HX5.out; rw [HHN.out, hs] at h; exact h
     clear HX5 hs
     subst hX
     go_wp2_with fail
     refine (node_any 30 ⟨#[]⟩ a (some ⟨b, off, none⟩) (l.length) cap w6).mono ?_
     rintro e w7 ⟨rfl, hb⟩
     have hm : Mv r w6 w7 := Mv.of_below hb
     have HCZ := Lib.hid (HC6.out.on (HC6.out.rd.below hb) hm (Nat.le_refl _))
     have HIZ : Hid (IsTs (fun b => w.heap.size < b) w7 (.slice (some ⟨b, off, none⟩) (l.length) cap) (l)) := HCZ.out.nodes.list.mono (fun b hb => Nat.lt_of_lt_of_le HCZ.out.hw hb)
     have HW := Lib.hid (res_world r j5 lv s w w7 ⟨30, ⟨#[]⟩, a, (some ⟨b, off, none⟩), l.length, cap⟩ (.mk 30 ⟨#[]⟩ a (l)) HRB.out (HM1.out.trans HCZ.out.mv) HCZ.out.res.z (IsT.node _ _ _ HIZ.out) HCZ.out.rd)
     obtain ⟨d0, d1, d2, d3, f0⟩ := HCZ.out.res.cells
     clear hb hm
     unfold ndC
     go_wp2_with fail
     obtain ⟨hcell, hist, hrd, hmv⟩ := HW.out
     exact bodyPost_ret (results_cellT rfl _ _ _ ⟨w.heap.size, 0, none⟩ _ rfl (load_node _ _ ⟨30, ⟨#[]⟩, a, (some ⟨b, off, none⟩), l.length, cap⟩ hcell)) rfl ⟨_, rfl, hist, hrd, hmv⟩
    ·have hX : Except.ok (.mk 30 ⟨#[]⟩ a (l ++ [.mk 31 ⟨#[]⟩ x.at_ []]), j5) = X := by have h := HX5.out; rw [HHN.out, hs] at h; exact h
     clear HX5 hs
     subst hX
     go_wp2_with fail
     refine (node_any 31 ⟨#[]⟩ x.at_ none 0 0 w6).mono ?_
     rintro e w7 ⟨rfl, hb⟩
     have HCU := Lib.hid (HC6.out.on (HC6.out.rd.below hb) (Mv.of_below hb) (Nat.le_refl _))
     have HTU : Hid (IsT (fun k => w1.heap.size ≤ k ∧ (Value.slice (some ⟨b, off, none⟩) l.length cap).ownBlock ≠ some k) w7 ⟨31, ⟨#[]⟩, x.at_, none, 0, 0⟩ (.mk 31 ⟨#[]⟩ x.at_ [])) := IsT.leaf _ _ _ _ _
     have hfew := HCU.out.few
     have hr20 := HCU.out.rd.few
     have hjl5 := HCU.out.rd.lt
     have HRB1 : Hid (r.b < w1.heap.size) := by have h1 := HCU.out.rb; have h2 := HCU.out.hw; exact Nat.lt_trans h1 h2
     clear hb
     unfold ndC
     go_wp2_with (at_builtin; go_must (refine wpList_pushN (o := ⟨some 37, _, _, _, _, _⟩) rfl (.tmp 33) (.tmp 36) rfl HCU.out.nodes HTU.out HCU.out.rd HCU.out.mv HRB1.out (by omega) rfl rfl rfl ?_; intro v' w8 hn6 hr6 hm6; have HC8 : Hid (Coll r w w1 lv s j5 (l ++ [.mk 31 ⟨#[]⟩ x.at_ []]) v' w8) := ⟨hn6, hr6, hm6, HS1.out.mv hm6 HRB.out, few_push HFL.out, HRB.out, HCU.out.hw⟩; clear hn6 hr6 hm6; obtain ⟨p', n', cap', hve'⟩ := HC8.out.nodes.sliceN; subst hve'))
     refine (node_any 30 ⟨#[]⟩ a p' n' cap' w8).mono ?_
     rintro e w9 ⟨rfl, hb⟩
     have hm : Mv r w8 w9 := Mv.of_below hb
     have HCZ := Lib.hid (HC8.out.on (HC8.out.rd.below hb) hm (Nat.le_refl _))
     have HIZ : Hid (IsTs (fun b => w.heap.size < b) w9 (.slice p' n' cap') (l ++ [.mk 31 ⟨#[]⟩ x.at_ []])) := HCZ.out.nodes.list.mono (fun b hb => Nat.lt_of_lt_of_le HCZ.out.hw hb)
     have HW := Lib.hid (res_world r j5 lv s w w9 ⟨30, ⟨#[]⟩, a, p', n', cap'⟩ (.mk 30 ⟨#[]⟩ a (l ++ [.mk 31 ⟨#[]⟩ x.at_ []])) HRB.out (HM1.out.trans HCZ.out.mv) HCZ.out.res.z (IsT.node _ _ _ HIZ.out) HCZ.out.rd)
     obtain ⟨d0, d1, d2, d3, f0⟩ := HCZ.out.res.cells
     clear hb hm
     unfold ndC
     go_wp2_with fail
     obtain ⟨hcell, hist, hrd, hmv⟩ := HW.out
     exact bodyPost_ret (results_cellT rfl _ _ _ ⟨w.heap.size, 0, none⟩ _ rfl (load_node _ _ ⟨30, ⟨#[]⟩, a, p', n', cap'⟩ hcell)) rfl ⟨_, rfl, hist, hrd, hmv⟩
end Go.Proofs.YtheigpiffdabnaaGreat
namespace Go.Proofs.YtheigpiffdabnaaGreat
open Go Go.RowKit
set_option maxRecDepth 100000 in
set_option maxHeartbeats 1000000 in
theorem prod_any (r : Rdr) (i lv : Nat) (s : Bool) (E Bk U : PM Tree) (w : World) (h : RdAt r i lv s w) (hE : EndAt r)
  (hup : UpS (unaryM r E Bk U))
  (HOP : ∀ a w1, RdAt r a lv s w1 → Calls Tryz.prog 103 #[.pointer (some ⟨r.b, 0, none⟩)] w1 (RulePost r (unaryM r E Bk U a) lv s w1)) :
  Calls Tryz.prog 101 #[.pointer (some ⟨r.b, 0, none⟩)] w (RulePost r (prodM r E Bk U i) lv s w) := by
 have HRB : Hid (r.b < w.heap.size) := lt_heap h.cells
 have HR1 := Lib.hid (h.below (boxB w (.cells #[.int .i64 0, .string ⟨#[]⟩, .int .i64 0, .slice none 0 0] 37)))
 have HM1 := Lib.hid (Mv.of_below (r := r) (boxB w (.cells #[.int .i64 0, .string ⟨#[]⟩, .int .i64 0, .slice none 0 0] 37)))
 have HS1 := Lib.hid (ResAt.start w)
 generalize hX0 : prodM r E Bk U i = X
 unfold prodM at hX0
 have HX1 := Lib.hid hX0
 have HE := Lib.hid hE
 have HUP := Lib.hid hup
 have HO1 := Lib.hid HOP
 clear hX0 h hE hup HOP
 go_enter Tryz.func101, Tryz.ntmps101
 go_wp2_with fail
 have hsz : (w.alloc (.cells #[.int .i64 0, .string ⟨#[]⟩, .int .i64 0, .slice none 0 0] 37)).heap.size = w.heap.size + 1 := by simp
 generalize w.alloc (.cells #[.int .i64 0, .string ⟨#[]⟩, .int .i64 0, .slice none 0 0] 37) = w1 at *
 have hb := boxB w1 (.cells #[.string ⟨#[42]⟩, .string ⟨#[47]⟩, .string ⟨#[37]⟩] 9)
 have hm : Mv r w1 (w1.alloc (.cells #[.string ⟨#[42]⟩, .string ⟨#[47]⟩, .string ⟨#[37]⟩] 9)) := Mv.of_below hb
 have HX2 := HX1
 have HR2 := Lib.hid (HR1.out.below hb)
 have HM2 := Lib.hid (HM1.out.trans hm)
 have HS2 := Lib.hid (HS1.out.mv hm HRB.out)
 have HV : Hid (TextsAt (w1.alloc (.cells #[.string ⟨#[42]⟩, .string ⟨#[47]⟩, .string ⟨#[37]⟩] 9)) w1.heap.size 0 Vmul) := texts_row _ Vmul rfl
 rw [hsz] at HV
 clear hb hm HX1 HR1 HM1 HS1 hsz
 generalize w1.alloc (.cells #[.string ⟨#[42]⟩, .string ⟨#[47]⟩, .string ⟨#[37]⟩] 9) = w2 at *
 refine (chain_any r i lv s 103 (unaryM r E Bk U) Vmul (w.heap.size + 1) 0 3 3 w2 HR2.out HE.out rfl (by decide) HV.out (by have := HRB.out; omega) (by decide) (fun args w => by kernel_rfl) HUP.out HO1.out).mono ?_
 intro e w3 hp
 rcases (RulePost.two (p := chainP r (unaryM r E Bk U) Vmul) hp) with ⟨k, hx, rfl, hm⟩ | ⟨t, j3, hx, q3, rfl, ht, hr, hm⟩
 ·have HM3 := Lib.hid (HM2.out.trans hm)
  have hX := hx.symm.trans HX2.out
  clear hx hm hp
  subst hX
  unfold stopAt
  go_wp2_with fail
  exact ⟨rfl, rfl, HM3.out⟩
 have HX3 := Lib.hid ((hx.symm.trans HX2.out) : Except.ok (t, j3) = X)
 have HR3 := Lib.hid hr
 have HM3 := Lib.hid (HM2.out.trans hm)
 have HS3 := Lib.hid (HS2.out.mv hm HRB.out)
 have HTt3 : Hid (IsT (fun b => w.heap.size < b) w3 q3 t) := ht.mono (fun b hb => HS2.out.up hb)
 unfold ndC
 clear hp hx ht hr hm HX2 HR2 HM2 HS2
 have HW := Lib.hid (res_world r j3 lv s w w3 q3 t HRB.out HM3.out HS3.out.z HTt3.out HR3.out)
 obtain ⟨d0, d1, d2, d3, f0⟩ := HS3.out.cells
 have hX : Except.ok (t, j3) = X := HX3.out
 clear HX3
 subst hX
 (try unfold ndC)
 go_wp2_with fail
 obtain ⟨hcell, hist, hrd, hmv⟩ := HW.out
 exact bodyPost_ret (results_cellT rfl _ _ _ ⟨w.heap.size, 0, none⟩ _ rfl (load_node _ _ q3 hcell)) rfl ⟨_, rfl, hist, hrd, hmv⟩
set_option maxRecDepth 100000 in
set_option maxHeartbeats 1000000 in
theorem sum_any (r : Rdr) (i lv : Nat) (s : Bool) (E Bk U : PM Tree) (w : World) (h : RdAt r i lv s w) (hE : EndAt r)
  (hup : UpS (prodM r E Bk U))
  (HOP : ∀ a w1, RdAt r a lv s w1 → Calls Tryz.prog 101 #[.pointer (some ⟨r.b, 0, none⟩)] w1 (RulePost r (prodM r E Bk U a) lv s w1)) :
  Calls Tryz.prog 96 #[.pointer (some ⟨r.b, 0, none⟩)] w (RulePost r (sumM r E Bk U i) lv s w) := by
 have HRB : Hid (r.b < w.heap.size) := lt_heap h.cells
 have HR1 := Lib.hid (h.below (boxB w (.cells #[.int .i64 0, .string ⟨#[]⟩, .int .i64 0, .slice none 0 0] 37)))
 have HM1 := Lib.hid (Mv.of_below (r := r) (boxB w (.cells #[.int .i64 0, .string ⟨#[]⟩, .int .i64 0, .slice none 0 0] 37)))
 have HS1 := Lib.hid (ResAt.start w)
 generalize hX0 : sumM r E Bk U i = X
 unfold sumM at hX0
 have HX1 := Lib.hid hX0
 have HE := Lib.hid hE
 have HUP := Lib.hid hup
 have HO1 := Lib.hid HOP
 clear hX0 h hE hup HOP
 go_enter Tryz.func96, Tryz.ntmps96
 go_wp2_with fail
 have hsz : (w.alloc (.cells #[.int .i64 0, .string ⟨#[]⟩, .int .i64 0, .slice none 0 0] 37)).heap.size = w.heap.size + 1 := by simp
 generalize w.alloc (.cells #[.int .i64 0, .string ⟨#[]⟩, .int .i64 0, .slice none 0 0] 37) = w1 at *
 have hb := boxB w1 (.cells #[.string ⟨#[43]⟩, .string ⟨#[45]⟩] 9)
 have hm : Mv r w1 (w1.alloc (.cells #[.string ⟨#[43]⟩, .string ⟨#[45]⟩] 9)) := Mv.of_below hb
 have HX2 := HX1
 have HR2 := Lib.hid (HR1.out.below hb)
 have HM2 := Lib.hid (HM1.out.trans hm)
 have HS2 := Lib.hid (HS1.out.mv hm HRB.out)
 have HV : Hid (TextsAt (w1.alloc (.cells #[.string ⟨#[43]⟩, .string ⟨#[45]⟩] 9)) w1.heap.size 0 Vadd) := texts_row _ Vadd rfl
 rw [hsz] at HV
 clear hb hm HX1 HR1 HM1 HS1 hsz
 generalize w1.alloc (.cells #[.string ⟨#[43]⟩, .string ⟨#[45]⟩] 9) = w2 at *
 refine (chain_any r i lv s 101 (prodM r E Bk U) Vadd (w.heap.size + 1) 0 2 2 w2 HR2.out HE.out rfl (by decide) HV.out (by have := HRB.out; omega) (by decide) (fun args w => by kernel_rfl) HUP.out HO1.out).mono ?_
 intro e w3 hp
 rcases (RulePost.two (p := chainP r (prodM r E Bk U) Vadd) hp) with ⟨k, hx, rfl, hm⟩ | ⟨t, j3, hx, q3, rfl, ht, hr, hm⟩
 ·have HM3 := Lib.hid (HM2.out.trans hm)
  have hX := hx.symm.trans HX2.out
  clear hx hm hp
  subst hX
  unfold stopAt
  go_wp2_with fail
  exact ⟨rfl, rfl, HM3.out⟩
 have HX3 := Lib.hid ((hx.symm.trans HX2.out) : Except.ok (t, j3) = X)
 have HR3 := Lib.hid hr
 have HM3 := Lib.hid (HM2.out.trans hm)
 have HS3 := Lib.hid (HS2.out.mv hm HRB.out)
 have HTt3 : Hid (IsT (fun b => w.heap.size < b) w3 q3 t) := ht.mono (fun b hb => HS2.out.up hb)
 unfold ndC
 clear hp hx ht hr hm HX2 HR2 HM2 HS2
 have HW := Lib.hid (res_world r j3 lv s w w3 q3 t HRB.out HM3.out HS3.out.z HTt3.out HR3.out)
 obtain ⟨d0, d1, d2, d3, f0⟩ := HS3.out.cells
 have hX : Except.ok (t, j3) = X := HX3.out
 clear HX3
 subst hX
 (try unfold ndC)
 go_wp2_with fail
 obtain ⟨hcell, hist, hrd, hmv⟩ := HW.out
 exact bodyPost_ret (results_cellT rfl _ _ _ ⟨w.heap.size, 0, none⟩ _ rfl (load_node _ _ q3 hcell)) rfl ⟨_, rfl, hist, hrd, hmv⟩
set_option maxRecDepth 100000 in
set_option maxHeartbeats 1000000 in
theorem and_any (r : Rdr) (i lv : Nat) (s : Bool) (E Bk U : PM Tree) (w : World) (h : RdAt r i lv s w) (hE : EndAt r)
  (hup : UpS (relM r E Bk U))
  (HOP : ∀ a w1, RdAt r a lv s w1 → Calls Tryz.prog 92 #[.pointer (some ⟨r.b, 0, none⟩)] w1 (RulePost r (relM r E Bk U a) lv s w1)) :
  Calls Tryz.prog 88 #[.pointer (some ⟨r.b, 0, none⟩)] w (RulePost r (andM r E Bk U i) lv s w) := by
 have HRB : Hid (r.b < w.heap.size) := lt_heap h.cells
 have HR1 := Lib.hid (h.below (boxB w (.cells #[.int .i64 0, .string ⟨#[]⟩, .int .i64 0, .slice none 0 0] 37)))
 have HM1 := Lib.hid (Mv.of_below (r := r) (boxB w (.cells #[.int .i64 0, .string ⟨#[]⟩, .int .i64 0, .slice none 0 0] 37)))
 have HS1 := Lib.hid (ResAt.start w)
 generalize hX0 : andM r E Bk U i = X
 unfold andM at hX0
 have HX1 := Lib.hid hX0
 have HE := Lib.hid hE
 have HUP := Lib.hid hup
 have HO1 := Lib.hid HOP
 clear hX0 h hE hup HOP
 go_enter Tryz.func88, Tryz.ntmps88
 go_wp2_with fail
 have hsz : (w.alloc (.cells #[.int .i64 0, .string ⟨#[]⟩, .int .i64 0, .slice none 0 0] 37)).heap.size = w.heap.size + 1 := by simp
 generalize w.alloc (.cells #[.int .i64 0, .string ⟨#[]⟩, .int .i64 0, .slice none 0 0] 37) = w1 at *
 have hb := boxB w1 (.cells #[.string ⟨#[38, 38]⟩] 9)
 have hm : Mv r w1 (w1.alloc (.cells #[.string ⟨#[38, 38]⟩] 9)) := Mv.of_below hb
 have HX2 := HX1
 have HR2 := Lib.hid (HR1.out.below hb)
 have HM2 := Lib.hid (HM1.out.trans hm)
 have HS2 := Lib.hid (HS1.out.mv hm HRB.out)
 have HV : Hid (TextsAt (w1.alloc (.cells #[.string ⟨#[38, 38]⟩] 9)) w1.heap.size 0 Vand) := texts_row _ Vand rfl
 rw [hsz] at HV
 clear hb hm HX1 HR1 HM1 HS1 hsz
 generalize w1.alloc (.cells #[.string ⟨#[38, 38]⟩] 9) = w2 at *
 refine (chain_any r i lv s 92 (relM r E Bk U) Vand (w.heap.size + 1) 0 1 1 w2 HR2.out HE.out rfl (by decide) HV.out (by have := HRB.out; omega) (by decide) (fun args w => by kernel_rfl) HUP.out HO1.out).mono ?_
 intro e w3 hp
 rcases (RulePost.two (p := chainP r (relM r E Bk U) Vand) hp) with ⟨k, hx, rfl, hm⟩ | ⟨t, j3, hx, q3, rfl, ht, hr, hm⟩
 ·have HM3 := Lib.hid (HM2.out.trans hm)
  have hX := hx.symm.trans HX2.out
  clear hx hm hp
  subst hX
  unfold stopAt
  go_wp2_with fail
  exact ⟨rfl, rfl, HM3.out⟩
 have HX3 := Lib.hid ((hx.symm.trans HX2.out) : Except.ok (t, j3) = X)
 have HR3 := Lib.hid hr
 have HM3 := Lib.hid (HM2.out.trans hm)
 have HS3 := Lib.hid (HS2.out.mv hm HRB.out)
 have HTt3 : Hid (IsT (fun b => w.heap.size < b) w3 q3 t) := ht.mono (fun b hb => HS2.out.up hb)
 unfold ndC
 clear hp hx ht hr hm HX2 HR2 HM2 HS2
 have HW := Lib.hid (res_world r j3 lv s w w3 q3 t HRB.out HM3.out HS3.out.z HTt3.out HR3.out)
 obtain ⟨d0, d1, d2, d3, f0⟩ := HS3.out.cells
 have hX : Except.ok (t, j3) = X := HX3.out
 clear HX3
 subst hX
 (try unfold ndC)
 go_wp2_with fail
 obtain ⟨hcell, hist, hrd, hmv⟩ := HW.out
 exact bodyPost_ret (results_cellT rfl _ _ _ ⟨w.heap.size, 0, none⟩ _ rfl (load_node _ _ q3 hcell)) rfl ⟨_, rfl, hist, hrd, hmv⟩
set_option maxRecDepth 100000 in
set_option maxHeartbeats 1000000 in
theorem expr_any (r : Rdr) (i lv : Nat) (s : Bool) (E Bk U : PM Tree) (w : World) (h : RdAt r i lv s w) (hE : EndAt r)
  (hup : UpS (andM r E Bk U))
  (HOP : ∀ a w1, RdAt r a lv s w1 → Calls Tryz.prog 88 #[.pointer (some ⟨r.b, 0, none⟩)] w1 (RulePost r (andM r E Bk U a) lv s w1)) :
  Calls Tryz.prog 77 #[.pointer (some ⟨r.b, 0, none⟩)] w (RulePost r (exprM r E Bk U i) lv s w) := by
 have HRB : Hid (r.b < w.heap.size) := lt_heap h.cells
 have HR1 := Lib.hid (h.below (boxB w (.cells #[.int .i64 0, .string ⟨#[]⟩, .int .i64 0, .slice none 0 0] 37)))
 have HM1 := Lib.hid (Mv.of_below (r := r) (boxB w (.cells #[.int .i64 0, .string ⟨#[]⟩, .int .i64 0, .slice none 0 0] 37)))
 have HS1 := Lib.hid (ResAt.start w)
 generalize hX0 : exprM r E Bk U i = X
 unfold exprM at hX0
 have HX1 := Lib.hid hX0
 have HE := Lib.hid hE
 have HUP := Lib.hid hup
 have HO1 := Lib.hid HOP
 clear hX0 h hE hup HOP
 go_enter Tryz.func77, Tryz.ntmps77
 go_wp2_with fail
 have hsz : (w.alloc (.cells #[.int .i64 0, .string ⟨#[]⟩, .int .i64 0, .slice none 0 0] 37)).heap.size = w.heap.size + 1 := by simp
 generalize w.alloc (.cells #[.int .i64 0, .string ⟨#[]⟩, .int .i64 0, .slice none 0 0] 37) = w1 at *
 have hb := boxB w1 (.cells #[.string ⟨#[124, 124]⟩] 9)
 have hm : Mv r w1 (w1.alloc (.cells #[.string ⟨#[124, 124]⟩] 9)) := Mv.of_below hb
 have HX2 := HX1
 have HR2 := Lib.hid (HR1.out.below hb)
 have HM2 := Lib.hid (HM1.out.trans hm)
 have HS2 := Lib.hid (HS1.out.mv hm HRB.out)
 have HV : Hid (TextsAt (w1.alloc (.cells #[.string ⟨#[124, 124]⟩] 9)) w1.heap.size 0 Vor) := texts_row _ Vor rfl
 rw [hsz] at HV
 clear hb hm HX1 HR1 HM1 HS1 hsz
 generalize w1.alloc (.cells #[.string ⟨#[124, 124]⟩] 9) = w2 at *
 refine (chain_any r i lv s 88 (andM r E Bk U) Vor (w.heap.size + 1) 0 1 1 w2 HR2.out HE.out rfl (by decide) HV.out (by have := HRB.out; omega) (by decide) (fun args w => by kernel_rfl) HUP.out HO1.out).mono ?_
 intro e w3 hp
 rcases (RulePost.two (p := chainP r (andM r E Bk U) Vor) hp) with ⟨k, hx, rfl, hm⟩ | ⟨t, j3, hx, q3, rfl, ht, hr, hm⟩
 ·have HM3 := Lib.hid (HM2.out.trans hm)
  have hX := hx.symm.trans HX2.out
  clear hx hm hp
  subst hX
  unfold stopAt
  go_wp2_with fail
  exact ⟨rfl, rfl, HM3.out⟩
 have HX3 := Lib.hid ((hx.symm.trans HX2.out) : Except.ok (t, j3) = X)
 have HR3 := Lib.hid hr
 have HM3 := Lib.hid (HM2.out.trans hm)
 have HS3 := Lib.hid (HS2.out.mv hm HRB.out)
 have HTt3 : Hid (IsT (fun b => w.heap.size < b) w3 q3 t) := ht.mono (fun b hb => HS2.out.up hb)
 unfold ndC
 clear hp hx ht hr hm HX2 HR2 HM2 HS2
 have HW := Lib.hid (res_world r j3 lv s w w3 q3 t HRB.out HM3.out HS3.out.z HTt3.out HR3.out)
 obtain ⟨d0, d1, d2, d3, f0⟩ := HS3.out.cells
 have hX : Except.ok (t, j3) = X := HX3.out
 clear HX3
 subst hX
 (try unfold ndC)
 go_wp2_with fail
 obtain ⟨hcell, hist, hrd, hmv⟩ := HW.out
 exact bodyPost_ret (results_cellT rfl _ _ _ ⟨w.heap.size, 0, none⟩ _ rfl (load_node _ _ q3 hcell)) rfl ⟨_, rfl, hist, hrd, hmv⟩
set_option maxRecDepth 100000 in
set_option maxHeartbeats 1000000 in
theorem exprBelow_deep (r : Rdr) (s : Bool) (i : Nat) (w : World) (h : RdAt r i 60 s w) :
  Calls Tryz.prog 61 #[.pointer (some ⟨r.b, 0, none⟩)] w (RulePost r ((failM : PM Tree) i) 60 s w) := by
 have HR1 := Lib.hid (h.below (boxB w (.cells #[.int .i64 0, .string ⟨#[]⟩, .int .i64 0, .slice none 0 0] 37)))
 have HB1 := Lib.hid (boxB w (.cells #[.int .i64 0, .string ⟨#[]⟩, .int .i64 0, .slice none 0 0] 37))
 clear h
 go_enter Tryz.func61, Tryz.ntmps61
 go_wp2_with fail
 refine (below_deep r i s _ _ HR1.out).mono ?_
 rintro e w2 ⟨rfl, hb⟩
 have HM2 := Lib.hid (Mv.of_below (r := r) (HB1.out.trans (hb.mono HB1.out.size)))
 clear hb
 unfold stopAt
 go_wp2_with fail
 exact ⟨rfl, rfl, HM2.out⟩
set_option maxRecDepth 100000 in
set_option maxHeartbeats 1000000 in
theorem exprBelow_ok (r : Rdr) (s : Bool) (i lv : Nat) (x : Except Nat (Tree × Nat)) (w : World) (h : RdAt r i lv s w) (hlv : lv < 60)
  (HP : ∀ w1, RdAt r i (lv + 1) s w1 → Calls Tryz.prog 77 #[.pointer (some ⟨r.b, 0, none⟩)] w1 (RulePost r x (lv + 1) s w1)) :
  Calls Tryz.prog 61 #[.pointer (some ⟨r.b, 0, none⟩)] w (RulePost r x lv s w) := by
 have HRB : Hid (r.b < w.heap.size) := lt_heap h.cells
 have HR1 := Lib.hid (h.below (boxB w (.cells #[.int .i64 0, .string ⟨#[]⟩, .int .i64 0, .slice none 0 0] 37)))
 have HM1 := Lib.hid (Mv.of_below (r := r) (boxB w (.cells #[.int .i64 0, .string ⟨#[]⟩, .int .i64 0, .slice none 0 0] 37)))
 have HS1 := Lib.hid (ResAt.start w)
 have HPP := Lib.hid HP
 clear h HP
 go_enter Tryz.func61, Tryz.ntmps61
 go_wp2_with fail
 generalize w.alloc (.cells #[.int .i64 0, .string ⟨#[]⟩, .int .i64 0, .slice none 0 0] 37) = w1 at *
 refine (below_ok r i lv s 77 x w1 HR1.out (by omega) (fun args w => by kernel_rfl) HPP.out).mono ?_
 intro e w2 hp
 match x, hp with
 | .error k, hp =>
  obtain ⟨rfl, hm⟩ := hp
  have HM2 := Lib.hid (HM1.out.trans hm)
  unfold stopAt
  go_wp2_with fail
  exact ⟨rfl, rfl, HM2.out⟩
 | .ok (t, j), hp =>
  obtain ⟨q, rfl, ht, hr2, hm2⟩ := hp
  have HS2 := Lib.hid (HS1.out.mv hm2 HRB.out)
  have hlt := lt_heap HS1.out.z
  have HW := Lib.hid (res_world r j lv s w w2 q t HRB.out (HM1.out.trans hm2) HS2.out.z (ht.mono (fun b hb => by omega)) hr2)
  obtain ⟨d0, d1, d2, d3, f0⟩ := HS2.out.cells
  unfold ndC
  clear ht hr2 hm2 hp
  go_wp2_with fail
  obtain ⟨hcell, hist, hrd, hmv⟩ := HW.out
  exact bodyPost_ret (results_cellT rfl _ _ _ ⟨w.heap.size, 0, none⟩ _ rfl (load_node _ _ q hcell)) rfl ⟨_, rfl, hist, hrd, hmv⟩
set_option maxRecDepth 100000 in
set_option maxHeartbeats 1000000 in
theorem blockBelow_deep (r : Rdr) (s : Bool) (i : Nat) (w : World) (h : RdAt r i 60 s w) :
  Calls Tryz.prog 79 #[.pointer (some ⟨r.b, 0, none⟩)] w (RulePost r ((failM : PM Tree) i) 60 s w) := by
 have HR1 := Lib.hid (h.below (boxB w (.cells #[.int .i64 0, .string ⟨#[]⟩, .int .i64 0, .slice none 0 0] 37)))
 have HB1 := Lib.hid (boxB w (.cells #[.int .i64 0, .string ⟨#[]⟩, .int .i64 0, .slice none 0 0] 37))
 clear h
 go_enter Tryz.func79, Tryz.ntmps79
 go_wp2_with fail
 refine (below_deep r i s _ _ HR1.out).mono ?_
 rintro e w2 ⟨rfl, hb⟩
 have HM2 := Lib.hid (Mv.of_below (r := r) (HB1.out.trans (hb.mono HB1.out.size)))
 clear hb
 unfold stopAt
 go_wp2_with fail
 exact ⟨rfl, rfl, HM2.out⟩
set_option maxRecDepth 100000 in
set_option maxHeartbeats 1000000 in
theorem blockBelow_ok (r : Rdr) (s : Bool) (i lv : Nat) (x : Except Nat (Tree × Nat)) (w : World) (h : RdAt r i lv s w) (hlv : lv < 60)
  (HP : ∀ w1, RdAt r i (lv + 1) s w1 → Calls Tryz.prog 89 #[.pointer (some ⟨r.b, 0, none⟩)] w1 (RulePost r x (lv + 1) s w1)) :
  Calls Tryz.prog 79 #[.pointer (some ⟨r.b, 0, none⟩)] w (RulePost r x lv s w) := by
 have HRB : Hid (r.b < w.heap.size) := lt_heap h.cells
 have HR1 := Lib.hid (h.below (boxB w (.cells #[.int .i64 0, .string ⟨#[]⟩, .int .i64 0, .slice none 0 0] 37)))
 have HM1 := Lib.hid (Mv.of_below (r := r) (boxB w (.cells #[.int .i64 0, .string ⟨#[]⟩, .int .i64 0, .slice none 0 0] 37)))
 have HS1 := Lib.hid (ResAt.start w)
 have HPP := Lib.hid HP
 clear h HP
 go_enter Tryz.func79, Tryz.ntmps79
 go_wp2_with fail
 generalize w.alloc (.cells #[.int .i64 0, .string ⟨#[]⟩, .int .i64 0, .slice none 0 0] 37) = w1 at *
 refine (below_ok r i lv s 89 x w1 HR1.out (by omega) (fun args w => by kernel_rfl) HPP.out).mono ?_
 intro e w2 hp
 match x, hp with
 | .error k, hp =>
  obtain ⟨rfl, hm⟩ := hp
  have HM2 := Lib.hid (HM1.out.trans hm)
  unfold stopAt
  go_wp2_with fail
  exact ⟨rfl, rfl, HM2.out⟩
 | .ok (t, j), hp =>
  obtain ⟨q, rfl, ht, hr2, hm2⟩ := hp
  have HS2 := Lib.hid (HS1.out.mv hm2 HRB.out)
  have hlt := lt_heap HS1.out.z
  have HW := Lib.hid (res_world r j lv s w w2 q t HRB.out (HM1.out.trans hm2) HS2.out.z (ht.mono (fun b hb => by omega)) hr2)
  obtain ⟨d0, d1, d2, d3, f0⟩ := HS2.out.cells
  unfold ndC
  clear ht hr2 hm2 hp
  go_wp2_with fail
  obtain ⟨hcell, hist, hrd, hmv⟩ := HW.out
  exact bodyPost_ret (results_cellT rfl _ _ _ ⟨w.heap.size, 0, none⟩ _ rfl (load_node _ _ q hcell)) rfl ⟨_, rfl, hist, hrd, hmv⟩
/-- the rules of exprs at one level, of those one level deeper -/
theorem level_any (r : Rdr) (s : Bool) (lv : Nat) (E Bk U : PM Tree) (hE : EndAt r) (hI : IntAt r) (uE : UpS E) (uB : UpS Bk) (uU : UpS U)
  (HEX : (∀ i w, RdAt r i lv s w → Calls Tryz.prog 61 #[.pointer (some ⟨r.b, 0, none⟩)] w (RulePost r (E i) lv s w))) (HBL : (∀ i w, RdAt r i lv s w → Calls Tryz.prog 79 #[.pointer (some ⟨r.b, 0, none⟩)] w (RulePost r (Bk i) lv s w))) (HUB : (∀ i w, RdAt r i lv s w → Calls Tryz.prog 75 #[.pointer (some ⟨r.b, 0, none⟩), .func (.func 103) #[] #[]] w (RulePost r (U i) lv s w))) :
  (∀ i w, RdAt r i lv s w → Calls Tryz.prog 77 #[.pointer (some ⟨r.b, 0, none⟩)] w (RulePost r (exprM r E Bk U i) lv s w)) ∧ (∀ i w, RdAt r i lv s w → Calls Tryz.prog 89 #[.pointer (some ⟨r.b, 0, none⟩)] w (RulePost r (blockM r E Bk i) lv s w)) ∧ (∀ i w, RdAt r i lv s w → Calls Tryz.prog 103 #[.pointer (some ⟨r.b, 0, none⟩)] w (RulePost r (unaryM r E Bk U i) lv s w)) := by
 have harg := fun i w h => arguments_any r i lv s E w h hE HEX uE.up
 have hcon := fun i w h => construction_any r i lv s E w h hE harg
 have hnam := fun i w h => named_any r i lv s E w h hE harg
 have hpar := fun i w h => paren_any r i lv s E w h hE HEX
 have hcho := fun i w h => choice_any r i lv s E Bk w h hE HEX HBL
 have hsto := fun kd a0 i w h => store_any r i lv s E kd a0 w h hE HEX
 have hlet := fun i w h => let_any r i lv s E w h hE hsto
 have hass := fun i w h => assign_any r i lv s E w h hE hsto
 have hwhi := fun i w h => while_any r i lv s E Bk w h hE HEX HBL
 have hpri := fun i w h => print_any r i lv s E w h hE HEX
 have hstm := fun i w h => stmt_any r i lv s E Bk w h hE hlet hwhi hpri hass HEX
 have hblo := fun i w h => block_any r i lv s E Bk w h hE (ups_stmt uE uB.up) hstm
 have hprm := fun i w h => primary_any r i lv s E Bk w h hE hnam hcon hpar hcho hblo hI
 have hpos := fun i w h => post_any r i lv s E Bk w h hE hprm
 have huna := fun i w h => unary_any r i lv s E Bk U w h hE HUB hpos
 have u1 : UpS (unaryM r E Bk U) := ups_unary uE uB.up uU
 have hpro := fun i w h => prod_any r i lv s E Bk U w h hE u1 huna
 have u2 : UpS (prodM r E Bk U) := ups_chain u1
 have hsum := fun i w h => sum_any r i lv s E Bk U w h hE u2 hpro
 have hrel := fun i w h => rel_any r i lv s E Bk U w h hE hsum
 have u3 : UpS (relM r E Bk U) := ups_rel uE uB.up uU
 have hand := fun i w h => and_any r i lv s E Bk U w h hE u3 hrel
 have u4 : UpS (andM r E Bk U) := ups_chain u3
 have hexp := fun i w h => expr_any r i lv s E Bk U w h hE u4 hand
 exact ⟨hexp, hblo, huna⟩
/-- exprs, blocks and operands one level deeper -/
theorem sub_any (r : Rdr) (s : Bool) (hE : EndAt r) (hI : IntAt r) : ∀ (d lv : Nat), lv + d = 60 →
  (∀ i w, RdAt r i lv s w → Calls Tryz.prog 61 #[.pointer (some ⟨r.b, 0, none⟩)] w (RulePost r ((subL r d).E i) lv s w)) ∧ (∀ i w, RdAt r i lv s w → Calls Tryz.prog 79 #[.pointer (some ⟨r.b, 0, none⟩)] w (RulePost r ((subL r d).B i) lv s w)) ∧ (∀ i w, RdAt r i lv s w → Calls Tryz.prog 75 #[.pointer (some ⟨r.b, 0, none⟩), .func (.func 103) #[] #[]] w (RulePost r ((subL r d).U i) lv s w))
 | 0, lv, hd => by
  have hl : lv = 60 := by omega
  subst hl
  refine ⟨fun i w h => exprBelow_deep r s i w h, fun i w h => blockBelow_deep r s i w h, fun i w h => (below_deep r i s _ w h).mono ?_⟩
  rintro e w' ⟨rfl, hb⟩
  exact ⟨rfl, Mv.of_below hb⟩
 | d + 1, lv, hd => by
  obtain ⟨h1, h2, h3⟩ := sub_any r s hE hI d (lv + 1) (by omega)
  obtain ⟨u1, u2, u3⟩ := ups_sub r d
  obtain ⟨g1, g2, g3⟩ := level_any r s (lv + 1) _ _ _ hE hI u1 u2 u3 h1 h2 h3
  exact ⟨fun i w h => exprBelow_ok r s i lv _ w h (by omega) (fun w1 => g1 i w1), fun i w h => blockBelow_ok r s i lv _ w h (by omega) (fun w1 => g2 i w1), fun i w h => below_ok r i lv s 103 _ w h (by omega) (fun args w => by kernel_rfl) (fun w1 => g3 i w1)⟩
end Go.Proofs.YtheigpiffdabnaaGreat
