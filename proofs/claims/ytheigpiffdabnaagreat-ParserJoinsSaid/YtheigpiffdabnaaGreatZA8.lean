/-
  CONTRACTS: choice, post.
-/
import Derived.Test.YtheigpiffdabnaaGreatZA7
set_option linter.unusedSimpArgs false
set_option linter.unusedVariables false
namespace Go.Proofs.YtheigpiffdabnaaGreat
open Go Go.RowKit
theorem one_isA {P : Program} {A C : World → World → Prop} {Pn : Ending → World → Prop} {c k : Nat} {v : Value} {w : World} (hr : A w w) (h : k ≠ c) : oneUpon P (sel A C c k) Pn (tvIs v) w (.ok (.value v) w) := by
 refine ⟨?_, (), rfl, trivial⟩
 unfold sel
 rw [if_neg h]
 exact hr
/-- a name that is read -/
def tvName (r : Rdr) (i lv : Nat) (s : Bool) : TyV := ⟨ByteArray × Nat, ⟨(ByteArray.empty, 0)⟩, fun x => .string x.1, fun x W => nameM r i = .ok (x.1, x.2) ∧ RdAt r x.2 lv s W⟩
theorem tvName_f (r : Rdr) (i lv : Nat) (s : Bool) (t : ByteArray) (j : Nat) : (tvName r i lv s).f (t, j) = .string t := rfl
theorem tvName_good {C : World → World → Prop} {r : Rdr} {i lv : Nat} {s : Bool} {c : Nat} : Good (fun a b => Below a.heap.size a b) C c c (tvName r i lv s) := ⟨fun x w w' e h => ⟨h.1, h.2.below e⟩, fun h => absurd rfl h⟩
theorem tvName_upon {P : Program} {A : World → World → Prop} {r : Rdr} {wa W : World} {i lv : Nat} {s : Bool} {c : Nat} {g : FuncId} {args : Array Value} (hm : Mv r wa W)
  (hc : Calls P g args W fun e w' => (∃ k, nameM r i = .error k ∧ e = stopAt k ∧ Mv r W w') ∨ (∃ (t : ByteArray) (j : Nat), nameM r i = .ok (t, j) ∧ e = .returned (.string t) ∧ RdAt r j lv s w' ∧ Mv r W w')) :
  oneUpon P (sel A (fun a b => Mv r a b) c c) (fun e x => ∃ k, nameM r i = .error k ∧ e = stopAt k ∧ Mv r wa x) (tvName r i lv s) W (.ok (.enter g args) W) := by
 refine hc.mono ?_
 rintro e w' (⟨k, hx, rfl, hm'⟩ | ⟨t, j, hx, rfl, hr, hm'⟩)
 ·exact .inr ⟨_, rfl, k, hx, rfl, hm.trans hm'⟩
 ·refine .inl ⟨(t, j), rfl, ?_, hx, hr⟩
  unfold sel
  rw [if_pos rfl]
  exact hm'
/-- a node in a new block of its own -/
def tvBox (r : Rdr) (wa : World) (q : Raw) : TyV := ⟨Nat, ⟨0⟩, fun g => .slice (some ⟨g, 0, none⟩) 1 1, fun g W => W.heap[g]? = some (.cells (ndC q) 37 (0, 0)) ∧ wa.heap.size ≤ g ∧ r.b < wa.heap.size⟩
theorem tvBox_f (r : Rdr) (wa : World) (q : Raw) (g : Nat) : (tvBox r wa q).f g = .slice (some ⟨g, 0, none⟩) 1 1 := rfl
theorem tvBox_good {r : Rdr} {wa : World} {q : Raw} {c k : Nat} : Good (fun a b => Below a.heap.size a b) (fun a b => Mv r a b) c k (tvBox r wa q) :=
 ⟨fun g w w' e h => ⟨by rw [e.block g (lt_heap h.1)]; exact h.1, h.2⟩, fun _ g w w' e h => ⟨by rw [Mv.block e (lt_heap h.1) (by have := h.2; omega)]; exact h.1, h.2⟩⟩
theorem tvBox_upon {P : Program} {C : World → World → Prop} {Pn : Ending → World → Prop} {r : Rdr} {wa W : World} {q : Raw} {c k : Nat} (hk : k ≠ c) (hm : Mv r wa W) (hrb : r.b < wa.heap.size) :
  oneUpon P (sel (fun a b => Below a.heap.size a b) C c k) Pn (tvBox r wa q) W (.ok (.value (.slice (some ⟨W.heap.size, 0, none⟩) 1 1)) (W.alloc (.cells (ndC q) 37))) := by
 refine ⟨?_, W.heap.size, rfl, heap_alloc_new W _, hm.size, hrb⟩
 unfold sel
 rw [if_neg hk]
 exact boxB W _
theorem tvRule_goodB {C : World → World → Prop} {r : Rdr} {w : World} {p : PM Tree} {i lv : Nat} {s : Bool} {c : Nat} : Good (fun a b => Below a.heap.size a b) C c c (tvRule r w p i lv s) := ⟨fun x w w' e h => ⟨h.1, h.2.1.later e, h.2.2.below e⟩, fun h => absurd rfl h⟩
/-- three nodes in a row in a new block, of which the third was read meanwhile -/
def tvThree (r : Rdr) (w : World) (p : PM Tree) (i : Nat) (c y : Tree) : TyV := ⟨Nat, ⟨0⟩, fun g => .slice (some ⟨g, 0, none⟩) 3 3, fun g W => (∃ u j, p i = .ok (u, j) ∧ IsTs (fun b => w.heap.size < b) W (.slice (some ⟨g, 0, none⟩) 3 3) [c, y, u]) ∧ r.b < w.heap.size⟩
theorem tvThree_f (r : Rdr) (w : World) (p : PM Tree) (i : Nat) (c y : Tree) (g : Nat) : (tvThree r w p i c y).f g = .slice (some ⟨g, 0, none⟩) 3 3 := rfl
theorem tvThree_good {r : Rdr} {w : World} {p : PM Tree} {i : Nat} {c y : Tree} {n k : Nat} : Good (fun a b => Below a.heap.size a b) (fun a b => Mv r a b) n k (tvThree r w p i c y) :=
 ⟨fun g w w' e h => ⟨by obtain ⟨u, j, h1, h2⟩ := h.1; exact ⟨u, j, h1, h2.later e⟩, h.2⟩,
  fun _ g w w' e h => ⟨by obtain ⟨u, j, h1, h2⟩ := h.1; exact ⟨u, j, h1, h2.mvB e h.2⟩, h.2⟩⟩
theorem tvThree_upon {P : Program} {C : World → World → Prop} {Pn : Ending → World → Prop} {r : Rdr} {w W : World} {p : PM Tree} {i j : Nat} {c y u : Tree} {n k : Nat} {q1 q2 q3 : Raw} {cs : Array Value} {t : TypeId} (hcs : cs.toList = rawEnc.all [q1, q2, q3]) (hk : k ≠ n) (hx : p i = .ok (u, j)) (hW : w.heap.size < W.heap.size)
  (h1 : IsT (fun b => w.heap.size < b) W q1 c) (h2 : IsT (fun b => w.heap.size < b) W q2 y) (h3 : IsT (fun b => w.heap.size < b) W q3 u) (hrb : r.b < w.heap.size) :
  oneUpon P (sel (fun a b => Below a.heap.size a b) C n k) Pn (tvThree r w p i c y) W (.ok (.value (.slice (some ⟨W.heap.size, 0, none⟩) 3 3)) (W.alloc (.cells cs t))) := by
 refine ⟨?_, W.heap.size, rfl, ⟨u, j, hx, ?_⟩, hrb⟩
 ·unfold sel
  rw [if_neg hk]
  exact boxB W _
 ·refine IsTs.row cs [q1, q2, q3] _ hcs rfl rfl (by decide) (by decide) hW (fun i a b => ?_)
  match i, a, b with
  | 0, _, _ => exact h1
  | 1, _, _ => exact h2
  | 2, _, _ => exact h3
  | i + 3, a, _ => exact absurd a (by simp)
set_option maxRecDepth 100000 in
set_option maxHeartbeats 1000000 in
theorem choice_any (r : Rdr) (i lv : Nat) (s : Bool) (E Bk : PM Tree) (w : World) (h : RdAt r i lv s w) (hE : EndAt r)
  (HEX : ∀ a w1, RdAt r a lv s w1 → Calls Tryz.prog 61 #[.pointer (some ⟨r.b, 0, none⟩)] w1 (RulePost r (E a) lv s w1))
  (HBL : ∀ a w1, RdAt r a lv s w1 → Calls Tryz.prog 79 #[.pointer (some ⟨r.b, 0, none⟩)] w1 (RulePost r (Bk a) lv s w1)) :
  Calls Tryz.prog 109 #[.pointer (some ⟨r.b, 0, none⟩)] w (RulePost r (choiceM r E Bk i) lv s w) := by
 have HRB : Hid (r.b < w.heap.size) := lt_heap h.cells
 have HR1 := Lib.hid (h.below (boxB w (.cells #[.int .i64 0, .string ⟨#[]⟩, .int .i64 0, .slice none 0 0] 37)))
 have HM1 := Lib.hid (Mv.of_below (r := r) (boxB w (.cells #[.int .i64 0, .string ⟨#[]⟩, .int .i64 0, .slice none 0 0] 37)))
 have HS1 := Lib.hid (ResAt.start w)
 generalize hX0 : choiceM r E Bk i = X
 unfold choiceM at hX0
 have HX1 := Lib.hid hX0
 have HE := Lib.hid hE
 have HE1 := Lib.hid HEX
 have HB1 := Lib.hid HBL
 clear hX0 h hE HEX HBL
 go_enter Tryz.func109, Tryz.ntmps109
 go_wp2_with fail
 generalize w.alloc (.cells #[.int .i64 0, .string ⟨#[]⟩, .int .i64 0, .slice none 0 0] 37) = w1 at *
 refine (here_x r i lv s w1 HR1.out).mono ?_
 rintro e w2 ⟨a, j2, hx, rfl, hr, hm⟩
 have HX2 := Lib.hid (bindM_ok hx HX1.out)
 have HR2 := Lib.hid hr
 have HM2 := Lib.hid (HM1.out.trans hm)
 have HS2 := Lib.hid (HS1.out.mv hm HRB.out)
 clear hx hr hm HX1 HR1 HM1 HS1
 go_wp2_with fail
 refine (need_x r j2 lv s ⟨#[105, 102]⟩ w2 HR2.out HE.out (by decide)).mono ?_
 rintro e w3 (⟨k, hx, rfl, hm⟩ | ⟨_, j3, hx, rfl, hr, hm⟩)
 ·have HM3 := Lib.hid (HM2.out.trans hm)
  have hX := bindM_err hx HX2.out
  clear hx hm
  subst hX
  unfold stopAt
  go_wp2_with fail
  exact ⟨rfl, rfl, HM3.out⟩
 have HX3 := Lib.hid (bindM_ok hx HX2.out)
 have HR3 := Lib.hid hr
 have HM3 := Lib.hid (HM2.out.trans hm)
 have HS3 := Lib.hid (HS2.out.mv hm HRB.out)
 clear hx hr hm HX2 HR2 HM2 HS2
 go_wp2_with fail
 refine (HE1.out j3 w3 HR3.out).mono ?_
 intro e w4 hp
 rcases (RulePost.two (p := E) hp) with ⟨k, hx, rfl, hm⟩ | ⟨c, j4, hx, q4, rfl, ht, hr, hm⟩
 ·have HM4 := Lib.hid (HM3.out.trans hm)
  have hX := bindM_err hx HX3.out
  clear hx hm
  subst hX
  unfold stopAt
  go_wp2_with fail
  exact ⟨rfl, rfl, HM4.out⟩
 have HX4 := Lib.hid (bindM_ok hx HX3.out)
 have HR4 := Lib.hid hr
 have HM4 := Lib.hid (HM3.out.trans hm)
 have HS4 := Lib.hid (HS3.out.mv hm HRB.out)
 have HTc4 : Hid (IsT (fun b => w.heap.size < b) w4 q4 c) := ht.mono (fun b hb => HS3.out.up hb)
 unfold ndC
 clear hp hx ht hr hm HX3 HR3 HM3 HS3
 go_wp2_with fail
 have hb := boxB w4 (.cells #[.int .i64 q4.kind, .string q4.text, .int .i64 q4.at_, .slice q4.p q4.n q4.cap] 37)
 have hm : Mv r w4 (w4.alloc (.cells #[.int .i64 q4.kind, .string q4.text, .int .i64 q4.at_, .slice q4.p q4.n q4.cap] 37)) := Mv.of_below hb
 have HX5 := HX4
 have HR5 := Lib.hid (HR4.out.below hb)
 have HM5 := Lib.hid (HM4.out.trans hm)
 have HS5 := Lib.hid (HS4.out.mv hm HRB.out)
 have HTc5 := Lib.hid (HTc4.out.mvB hm HRB.out)
 have HBc5 : Hid (BoxAt r w w4.heap.size q4 (w4.alloc (.cells #[.int .i64 q4.kind, .string q4.text, .int .i64 q4.at_, .slice q4.p q4.n q4.cap] 37))) := ⟨heap_alloc_new w4 _, HS4.out.up (Nat.le_refl _), HRB.out⟩
 clear hb hm HX4 HR4 HM4 HS4 HTc4
 have hsz : (w4.alloc (.cells #[.int .i64 q4.kind, .string q4.text, .int .i64 q4.at_, .slice q4.p q4.n q4.cap] 37)).heap.size = w4.heap.size + 1 := by simp
 obtain ⟨gc, hgc⟩ : ∃ g, w4.heap.size = g := ⟨_, rfl⟩
 rw [hgc] at HBc5 hsz
 generalize w4.alloc (.cells #[.int .i64 q4.kind, .string q4.text, .int .i64 q4.at_, .slice q4.p q4.n q4.cap] 37) = w5 at *
 rw [hgc]
 have HSZ5 := Lib.hid hsz
 clear hgc hsz
 refine (HB1.out j4 w5 HR5.out).mono ?_
 intro e w6 hp
 rcases (RulePost.two (p := Bk) hp) with ⟨k, hx, rfl, hm⟩ | ⟨y, j6, hx, q6, rfl, ht, hr, hm⟩
 ·have HM6 := Lib.hid (HM5.out.trans hm)
  have hX := bindM_err hx HX5.out
  clear hx hm
  subst hX
  unfold stopAt
  go_wp2_with fail
  exact ⟨rfl, rfl, HM6.out⟩
 have HX6 := Lib.hid (bindM_ok hx HX5.out)
 have HR6 := Lib.hid hr
 have HM6 := Lib.hid (HM5.out.trans hm)
 have HS6 := Lib.hid (HS5.out.mv hm HRB.out)
 have HTc6 := Lib.hid (HTc5.out.mvB hm HRB.out)
 have HBc6 := Lib.hid (HBc5.out.mvB hm HRB.out)
 have HTy6 : Hid (IsT (fun b => w.heap.size < b) w6 q6 y) := ht.mono (fun b hb => HS5.out.up hb)
 unfold ndC
 clear hp hx ht hr hm HX5 HR5 HM5 HS5 HTc5 HBc5
 go_wp2_with fail
 have hb := boxB w6 (.cells #[.int .i64 q6.kind, .string q6.text, .int .i64 q6.at_, .slice q6.p q6.n q6.cap] 37)
 have hm : Mv r w6 (w6.alloc (.cells #[.int .i64 q6.kind, .string q6.text, .int .i64 q6.at_, .slice q6.p q6.n q6.cap] 37)) := Mv.of_below hb
 have HX7 := HX6
 have HR7 := Lib.hid (HR6.out.below hb)
 have HM7 := Lib.hid (HM6.out.trans hm)
 have HS7 := Lib.hid (HS6.out.mv hm HRB.out)
 have HTc7 := Lib.hid (HTc6.out.mvB hm HRB.out)
 have HBc7 := Lib.hid (HBc6.out.mvB hm HRB.out)
 have HTy7 := Lib.hid (HTy6.out.mvB hm HRB.out)
 have HBy7 : Hid (BoxAt r w w6.heap.size q6 (w6.alloc (.cells #[.int .i64 q6.kind, .string q6.text, .int .i64 q6.at_, .slice q6.p q6.n q6.cap] 37))) := ⟨heap_alloc_new w6 _, HS6.out.up (Nat.le_refl _), HRB.out⟩
 clear hb hm HX6 HR6 HM6 HS6 HTc6 HBc6 HTy6
 have hsz : (w6.alloc (.cells #[.int .i64 q6.kind, .string q6.text, .int .i64 q6.at_, .slice q6.p q6.n q6.cap] 37)).heap.size = w6.heap.size + 1 := by simp
 obtain ⟨gy, hgy⟩ : ∃ g, w6.heap.size = g := ⟨_, rfl⟩
 rw [hgy] at HBy7 hsz
 generalize w6.alloc (.cells #[.int .i64 q6.kind, .string q6.text, .int .i64 q6.at_, .slice q6.p q6.n q6.cap] 37) = w7 at *
 rw [hgy]
 have HSZ7 := Lib.hid hsz
 clear hgy hsz
 refine (need_x r j6 lv s ⟨#[101, 108, 115, 101]⟩ w7 HR7.out HE.out (by decide)).mono ?_
 rintro e w8 (⟨k, hx, rfl, hm⟩ | ⟨_, j8, hx, rfl, hr, hm⟩)
 ·have HM8 := Lib.hid (HM7.out.trans hm)
  have hX := bindM_err hx HX7.out
  clear hx hm
  subst hX
  unfold stopAt
  go_wp2_with fail
  exact ⟨rfl, rfl, HM8.out⟩
 have HX8 := Lib.hid (bindM_ok hx HX7.out)
 have HR8 := Lib.hid hr
 have HM8 := Lib.hid (HM7.out.trans hm)
 have HS8 := Lib.hid (HS7.out.mv hm HRB.out)
 have HTc8 := Lib.hid (HTc7.out.mvB hm HRB.out)
 have HBc8 := Lib.hid (HBc7.out.mvB hm HRB.out)
 have HTy8 := Lib.hid (HTy7.out.mvB hm HRB.out)
 have HBy8 := Lib.hid (HBy7.out.mvB hm HRB.out)
 clear hx hr hm HX7 HR7 HM7 HS7 HTc7 HBc7 HTy7 HBy7
 go_wp2_with fail
 apply wp_region_one 4 6 (fun x y => Below x.heap.size x y) (fun x y => Mv r x y) (fun x => Mv r w8 x) (fun x => RdAt r j8 lv s x) (fun e x => ∃ k, Bk j8 = .error k ∧ e = stopAt k ∧ Mv r w8 x)
 case hIA => (intro x y hl h; exact h.trans (Mv.of_below hl))
 case hIC => (intro x y hl h; exact h.trans hl)
 case hPA => (intro x y hl h; exact h.below hl)
 case hm => kernel_rfl
 case hB => kernel_rfl
 case h0 => exact But.drew w8
 case h1 => exact HR8.out.below (Below.drew (Below.refl _ _))
 case hP =>
  rintro k a' W ⟨k', hx, he, hm⟩ hd
  have hX := bindM_err hx HX8.out
  subst hX
  simp only [Exit.then]
  exact ⟨hd, he, HM8.out.trans hm⟩
 simp only [List.take_succ_cons, List.take_zero, List.drop_succ_cons, List.drop_zero]
 apply wpOne_cons (t := tvIs (.int .i64 a)) (tvIs_good _ _)
 case h1 =>
  intro W hI hl
  unfold oneAt
  go_simp
  exact one_isA (Below.refl _ _) (by decide)
 intro _
 rw [tvIs_f]
 go_simp
 apply wpOne_cons (t := tvIs (.agg #[.int .i64 q4.kind, .string q4.text, .int .i64 q4.at_, .slice q4.p q4.n q4.cap])) (tvIs_good _ _)
 case h1 =>
  intro W hI hl
  obtain ⟨b0, b1, b2, b3⟩ := (HBc8.out.mvB hI HRB.out).cells
  unfold oneAt
  go_simp
  exact one_isA (Below.refl _ _) (by decide)
 intro _
 rw [tvIs_f]
 go_simp
 apply wpOne_cons (t := tvIs (.agg #[.int .i64 q6.kind, .string q6.text, .int .i64 q6.at_, .slice q6.p q6.n q6.cap])) (tvIs_good _ _)
 case h1 =>
  intro W hI hl
  obtain ⟨b0, b1, b2, b3⟩ := (HBy8.out.mvB hI HRB.out).cells
  unfold oneAt
  go_simp
  exact one_isA (Below.refl _ _) (by decide)
 intro _
 rw [tvIs_f]
 go_simp
 apply wpOne_cons (t := tvIs (.pointer (some ⟨r.b, 0, none⟩))) (tvIs_good _ _)
 case h1 =>
  intro W hI hl
  unfold oneAt
  go_simp
  exact one_isA (Below.refl _ _) (by decide)
 intro _
 rw [tvIs_f]
 go_simp
 apply wpOne_cons (t := tvRule r w8 Bk j8 lv s) tvRule_goodB
 case h1 =>
  intro W hI hl
  unfold oneAt
  go_simp
  exact tvRule_upon hI (HB1.out j8 W (hl.1 rfl))
 rintro ⟨q9, u9, j9⟩
 rw [tvRule_f]
 unfold ndC
 go_simp
 apply wpOne_cons (t := tvThree r w Bk j8 c y) tvThree_good
 case h1 =>
  intro W hI hl
  have h4 : Bk j8 = .ok (u9, j9) ∧ IsT (fun b => w8.heap.size ≤ b) W q9 u9 ∧ RdAt r j9 lv s W := hl.2 ⟨4, .data⟩ (by simp) rfl
  have H4 := Lib.hid h4
  clear h4 hl
  unfold oneAt
  go_simp
  have hsz : w8.heap.size ≤ W.heap.size := But.size hI
  have hw8 := lt_heap HS8.out.z
  exact tvThree_upon (q1 := q4) (q2 := q6) (q3 := q9) rfl (by decide) H4.out.1 (by omega) (HTc8.out.mvB hI HRB.out) (HTy8.out.mvB hI HRB.out) (H4.out.2.1.mono (fun b hb => HS8.out.up hb)) HRB.out
 intro (g9 : Nat)
 rw [tvThree_f r w Bk j8 c y g9]
 go_simp
 apply wpOne_nil (Ts := [])
 intro w9 hI hFa
 have hm : Mv r w8 w9 := hI
 have hfact : Bk j8 = .ok (u9, j9) ∧ IsT (fun b => w8.heap.size ≤ b) w9 q9 u9 ∧ RdAt r j9 lv s w9 := hFa 4
 have hfact2 : (∃ u j, Bk j8 = .ok (u, j) ∧ IsTs (fun b => w.heap.size < b) w9 (.slice (some ⟨g9, 0, none⟩) 3 3) [c, y, u]) ∧ r.b < w.heap.size := hFa 5
 obtain ⟨hx, ht, hr⟩ := hfact
 obtain ⟨⟨u', j', hx', hl9⟩, -⟩ := hfact2
 rw [hx] at hx'
 simp only [Except.ok.injEq, Prod.mk.injEq] at hx'
 obtain ⟨rfl, rfl⟩ := hx'
 have HX9 := Lib.hid (bindM_ok hx HX8.out)
 have HR9 := Lib.hid hr
 have HM9 := Lib.hid (HM8.out.trans hm)
 have HS9 := Lib.hid (HS8.out.mv hm HRB.out)
 have HL9 : Hid (IsTs (fun b => w.heap.size < b) w9 (.slice (some ⟨g9, 0, none⟩) 3 3) [c, y, u9]) := hl9
 clear hx ht hr hm hl9 hI hFa HX8 HR8 HM8 HS8 HTc8 HTy8
 go_wp2_with fail
 refine (node_any 29 ⟨#[]⟩ a (some ⟨g9, 0, none⟩) 3 3 w9).mono ?_
 rintro e w10 ⟨rfl, hb⟩
 have hm : Mv r w9 w10 := Mv.of_below hb
 have HR10 := Lib.hid (HR9.out.below hb)
 have HM10 := Lib.hid (HM9.out.trans hm)
 have HS10 := Lib.hid (HS9.out.mv hm HRB.out)
 have HL10 := Lib.hid (HL9.out.mvB hm HRB.out)
 have HW := Lib.hid (res_world r j9 lv s w w10 ⟨29, ⟨#[]⟩, a, some ⟨g9, 0, none⟩, 3, 3⟩ (.mk 29 ⟨#[]⟩ a [c, y, u9]) HRB.out HM10.out HS10.out.z (IsT.node _ _ _ HL10.out) HR10.out)
 obtain ⟨d0, d1, d2, d3, f0⟩ := HS10.out.cells
 have hX : Except.ok (.mk 29 ⟨#[]⟩ a [c, y, u9], j9) = X := HX9.out
 clear HX9
 subst hX
 unfold ndC
 go_wp2_with fail
 obtain ⟨hcell, hist, hrd, hmv⟩ := HW.out
 exact bodyPost_ret (results_cellT rfl _ _ _ ⟨w.heap.size, 0, none⟩ _ rfl (load_node _ _ ⟨29, ⟨#[]⟩, a, some ⟨g9, 0, none⟩, 3, 3⟩ hcell)) rfl ⟨_, rfl, hist, hrd, hmv⟩
set_option maxRecDepth 100000 in
set_option maxHeartbeats 2000000 in
theorem post_any (r : Rdr) (i lv : Nat) (s : Bool) (E Bk : PM Tree) (w : World) (h : RdAt r i lv s w) (hE : EndAt r)
  (HPR : ∀ a w1, RdAt r a lv s w1 → Calls Tryz.prog 105 #[.pointer (some ⟨r.b, 0, none⟩)] w1 (RulePost r (primaryM r E Bk a) lv s w1)) :
  Calls Tryz.prog 104 #[.pointer (some ⟨r.b, 0, none⟩)] w (RulePost r (postM r E Bk i) lv s w) := by
 have HRB : Hid (r.b < w.heap.size) := lt_heap h.cells
 have HR1 := Lib.hid (h.below (boxB w (.cells #[.int .i64 0, .string ⟨#[]⟩, .int .i64 0, .slice none 0 0] 37)))
 have HM1 := Lib.hid (Mv.of_below (r := r) (boxB w (.cells #[.int .i64 0, .string ⟨#[]⟩, .int .i64 0, .slice none 0 0] 37)))
 have HS1 := Lib.hid (ResAt.start w)
 generalize hX0 : postM r E Bk i = X
 unfold postM at hX0
 have HX1 := Lib.hid hX0
 have HE := Lib.hid hE
 have HPP := Lib.hid HPR
 clear hX0 h hE HPR
 go_enter Tryz.func104, Tryz.ntmps104
 go_wp2_with fail
 generalize w.alloc (.cells #[.int .i64 0, .string ⟨#[]⟩, .int .i64 0, .slice none 0 0] 37) = w1 at *
 refine (HPP.out i w1 HR1.out).mono ?_
 intro e w2 hp
 rcases (RulePost.two (p := primaryM r E Bk) hp) with ⟨k, hx, rfl, hm⟩ | ⟨t, j2, hx, q2, rfl, ht, hr, hm⟩
 ·have HM2 := Lib.hid (HM1.out.trans hm)
  have hX := bindM_err hx HX1.out
  clear hx hm
  subst hX
  unfold stopAt
  go_wp2_with fail
  exact ⟨rfl, rfl, HM2.out⟩
 have HX2 : Hid (dotsM r (r.L.length + 1) t j2 = X) := by have hX := bindM_ok hx HX1.out; exact hX
 have HT3 := Lib.hid (Turn.first hr (HM1.out.trans hm) (HS1.out.mv hm HRB.out) HRB.out (ht.mono (fun b hb => HS1.out.up hb)))
 unfold ndC at HT3 ⊢
 clear hp hx ht hr hm HX1 HR1 HM1 HS1
 go_wp2_with fail
 obtain ⟨g, hg⟩ : ∃ g, w2.heap.size = g := ⟨_, rfl⟩
 rw [hg] at HT3
 generalize w2.alloc (.cells #[.int .i64 q2.kind, .string q2.text, .int .i64 q2.at_, .slice q2.p q2.n q2.cap] 37) = w3 at *
 rw [hg]
 clear hg
 go_loopw [] (fun wr => ∃ (j f : Nat) (q : Raw) (t : Tree), Hid (Turn r w g lv s j q t wr) ∧ r.L.length ≤ f + j ∧ Hid (dotsM r f t j = X)) (fun wr => r.L.length - nextOf r wr)
 case atStart => exact ⟨j2, r.L.length + 1, q2, t, HT3.out, by omega, HX2.out⟩
 case round =>
  obtain ⟨j, f, q, t, HT, hf, HX⟩ := hrel
  clear HT3 HX2
  have hnx : nextOf r wr = j := HT.out.nextOf
  have HNX := Lib.hid hnx
  have hjl := HT.out.rd.lt
  obtain ⟨f', rfl⟩ : ∃ f', f = f' + 1 := ⟨f - 1, by omega⟩
  have HX0 : Hid (bindM (tookM r ⟨#[46]⟩) (fun b => match b with | false => pureM t | true => bindM (nameM r) fun nm => dotsM r f' (.mk 26 nm t.at_ [t])) j = X) := HX
  clear HX hnx
  go_wp2_with fail
  refine (took_x r j lv s ⟨#[46]⟩ wr HT.out.rd HE.out (by decide)).mono ?_
  rintro e w4 ⟨b, j4, hx, rfl, hr, hm⟩
  have hj4 : j ≤ j4 := up_took r _ _ _ _ hx
  have hX4 := bindM_ok hx HX0.out
  have HT4 := Lib.hid (HT.out.on hr hm)
  clear hr hm HX0 HT hx
  cases b
  ·have hX : Except.ok (t, j4) = X := hX4
   clear hX4
   subst hX
   have HW := Lib.hid (res_world r j4 lv s w w4 q t HRB.out HT4.out.mv HT4.out.res.z (HT4.out.tree.mono (fun b hb => hb.1)) HT4.out.rd)
   obtain ⟨d0, d1, d2, d3, e0⟩ := HT4.out.res.cells
   obtain ⟨b0, b1, b2, b3⟩ := HT4.out.box.cells
   go_wp2_with fail
   obtain ⟨hcell, hist, hrd, hmv⟩ := HW.out
   exact bodyPost_ret (results_cellT rfl _ _ _ ⟨w.heap.size, 0, none⟩ _ rfl (load_node _ _ q hcell)) rfl ⟨_, rfl, hist, hrd, hmv⟩
  ·have HX4 : Hid (bindM (nameM r) (fun nm => dotsM r f' (.mk 26 nm t.at_ [t])) j4 = X) := hX4
   clear hX4
   have HT := HT4
   clear HT4
   go_wp2_with fail
   apply wp_region_one 1 6 (fun x y => Below x.heap.size x y) (fun x y => Mv r x y) (fun x => Mv r w4 x) (fun x => RdAt r j4 lv s x) (fun e x => ∃ k, nameM r j4 = .error k ∧ e = stopAt k ∧ Mv r w4 x)
   case hIA => (intro x y hl h; exact h.trans (Mv.of_below hl))
   case hIC => (intro x y hl h; exact h.trans hl)
   case hPA => (intro x y hl h; exact h.below hl)
   case hm => kernel_rfl
   case hB => kernel_rfl
   case h0 => exact But.drew w4
   case h1 => exact HT.out.rd.below (Below.drew (Below.refl _ _))
   case hP =>
    rintro k a' W ⟨k', hx, he, hm⟩ hd
    have hX := bindM_err hx HX4.out
    subst hX
    change bodyPost Tryz.prog Tryz.f104 (RulePost r (.error k') lv s w) (.panic k) a' W
    exact ⟨hd, he, HT.out.mv.trans hm⟩
   simp only [List.take_succ_cons, List.take_zero, List.drop_succ_cons, List.drop_zero]
   apply wpOne_cons (t := tvIs (.pointer (some ⟨r.b, 0, none⟩))) (tvIs_good _ _)
   case h1 =>
    intro W hI hl
    unfold oneAt
    go_simp
    exact one_isA (Below.refl _ _) (by decide)
   intro _
   rw [tvIs_f]
   go_simp
   apply wpOne_cons (t := tvName r j4 lv s) tvName_good
   case h1 =>
    intro W hI hl
    unfold oneAt
    go_simp
    exact tvName_upon hI (name_x r j4 lv s W (hl.1 rfl) HE.out)
   rintro ⟨nm, j5⟩
   rw [tvName_f]
   go_simp
   apply wpOne_cons (t := tvIs (.pointer (some ⟨g, 2, none⟩))) (tvIs_good _ _)
   case h1 =>
    intro W hI hl
    unfold oneAt
    go_simp
    exact one_isA (Below.refl _ _) (by decide)
   intro _
   rw [tvIs_f]
   go_simp
   apply wpOne_cons (t := tvIs (.int .i64 q.at_)) (tvIs_good _ _)
   case h1 =>
    intro W hI hl
    obtain ⟨b0, b1, b2, b3⟩ := (HT.out.box.mvB hI HRB.out).cells
    unfold oneAt
    go_simp
    exact one_isA (Below.refl _ _) (by decide)
   intro _
   rw [tvIs_f]
   go_simp
   apply wpOne_cons (t := tvIs (.agg #[.int .i64 q.kind, .string q.text, .int .i64 q.at_, .slice q.p q.n q.cap])) (tvIs_good _ _)
   case h1 =>
    intro W hI hl
    obtain ⟨b0, b1, b2, b3⟩ := (HT.out.box.mvB hI HRB.out).cells
    unfold oneAt
    go_simp
    exact one_isA (Below.refl _ _) (by decide)
   intro _
   rw [tvIs_f]
   go_simp
   apply wpOne_cons (t := tvBox r w4 q) tvBox_good
   case h1 =>
    intro W hI hl
    unfold oneAt
    go_simp
    exact tvBox_upon (by decide) hI (by have := lt_heap HT.out.rd.cells; exact this)
   intro (g5 : Nat)
   rw [tvBox_f r w4 q g5]
   go_simp
   apply wpOne_nil (Ts := [])
   intro w5 hI hFa
   have hm : Mv r w4 w5 := hI
   have hfact : nameM r j4 = .ok (nm, j5) ∧ RdAt r j5 lv s w5 := hFa 1
   have hfact2 : w5.heap[g5]? = some (.cells (ndC q) 37 (0, 0)) ∧ w4.heap.size ≤ g5 ∧ r.b < w4.heap.size := hFa 5
   obtain ⟨hx, hr⟩ := hfact
   obtain ⟨hg5, hlt5, -⟩ := hfact2
   have hX5 := bindM_ok hx HX4.out
   have HX5 : Hid (dotsM r f' (.mk 26 nm t.at_ [t]) j5 = X) := hX5
   clear hX5
   have HT5 := Lib.hid (HT.out.on hr hm)
   have hjj := ups_name r _ _ _ hx
   have HG5 := Lib.hid hg5
   have HL5 : Hid (since w g g5) := by
    have h1 := lt_heap HT.out.box.z
    have h2 := HT.out.box.new
    exact ⟨by omega, by omega⟩
   clear hI hFa hm hx hr HX4 HT hg5 hlt5
   go_wp2_with fail
   refine (node_any 26 nm q.at_ (some ⟨g5, 0, none⟩) 1 1 w5).mono ?_
   rintro e w6 ⟨rfl, hb⟩
   have hm : Mv r w5 w6 := Mv.of_below hb
   have HR6 := Lib.hid (HT5.out.rd.below hb)
   have HT6 := Lib.hid (HT5.out.on HR6.out hm)
   have HB6 : Hid (IsT (since w g) w6 ⟨26, nm, q.at_, some ⟨g5, 0, none⟩, 1, 1⟩ (.mk 26 nm t.at_ [t])) := by
    show IsT _ _ _ _
    rw [← HT6.out.tree.parts.2.2.1]
    exact IsT.one 26 nm _ (by rw [hb.block _ (lt_heap HG5.out)]; exact HG5.out) HL5.out HT6.out.tree
   have HT7 := Lib.hid (HT5.out.store HR6.out hm HB6.out)
   obtain ⟨b0, b1, b2, b3⟩ := HT6.out.box.cells
   have f0 := HT6.out.box.warm
   clear hb hm HT5 HB6 HR6 HT6 HG5 HL5
   unfold ndC
   go_wp2_with fail
   go_roundw
   case rel => exact ⟨j5, f', _, _, HT7.out, by omega, HX5.out⟩
   case measure => rw [HT7.out.nextOf, HNX.out]; omega
end Go.Proofs.YtheigpiffdabnaaGreat
namespace Go.Proofs.YtheigpiffdabnaaGreat
open Go Go.RowKit
/-- an int is not the last token -/
def IntAt (r : Rdr) : Prop := ∀ i, i < r.L.length → (r.L.getD i tok0).kind = 3 → i + 1 < r.L.length
theorem take_x (r : Rdr) (i lv : Nat) (s : Bool) (w : World) (h : RdAt r i lv s w) (hi : i + 1 < r.L.length) :
  Calls Tryz.prog 74 #[.pointer (some ⟨r.b, 0, none⟩)] w fun e w' => ∃ (x : Lx.Tok) (j : Nat), takeM r i = .ok (x, j) ∧ e = .returned (.agg (tkC x.kind x.text x.at_)) ∧ RdAt r j lv s w' ∧ Mv r w w' :=
 (take_any r i lv s w h hi).mono fun e w' ⟨h1, h2, h3⟩ => ⟨_, _, rfl, h1, h2, h3⟩
theorem fail_x (r : Rdr) (i lv : Nat) (s : Bool) (w : World) (h : RdAt r i lv s w) :
  Calls Tryz.prog 31 #[.pointer (some ⟨r.b, 0, none⟩)] w fun e w' => ∃ k, (failM : PM Tree) i = .error k ∧ e = stopAt k ∧ Mv r w w' :=
 (fail_any r i lv s w h).mono fun e w' ⟨h1, h2⟩ => ⟨i, rfl, h1, Mv.of_below h2⟩
/-- a local variable that holds a token -/
structure TokBox (r : Rdr) (w : World) (g : Nat) (x : Lx.Tok) (W : World) : Prop where
 z : W.heap[g]? = some (.cells (tkC x.kind x.text x.at_) 55 (0, 0))
 new : w.heap.size < g
 old : r.b < w.heap.size
theorem TokBox.mvB {r : Rdr} {w W W' : World} {g : Nat} {x : Lx.Tok} {B : Nat} (h : TokBox r w g x W) (hm : Mv r W W') (hr : r.b < B) : TokBox r w g x W' :=
 ⟨by rw [hm.block (lt_heap h.z) (by have := h.new; have := h.old; omega)]; exact h.z, h.new, h.old⟩
theorem TokBox.cells {r : Rdr} {w W : World} {g : Nat} {x : Lx.Tok} (h : TokBox r w g x W) : W.cell? ⟨g, 0, none⟩ = some (.int .i64 x.kind) ∧ W.cell? ⟨g, 1, none⟩ = some (.string x.text) ∧ W.cell? ⟨g, 2, none⟩ = some (.int .i64 x.at_) :=
 ⟨by rw [Lib.cell_of_heap h.z]; rfl, by rw [Lib.cell_of_heap h.z]; rfl, by rw [Lib.cell_of_heap h.z]; rfl⟩
theorem isB_size {t u : ByteArray} (h : isB t u = true) (hu : u.size ≠ 0) : t.size ≠ 0 := by
 unfold isB at h
 rw [beq_iff_eq, ByteArray.toList_eq, ByteArray.toList_eq] at h
 intro h0
 apply hu
 have h2 := congrArg List.length h
 have h3 : t.data.size = t.size := rfl
 have h4 : u.data.size = u.size := rfl
 simp only [Array.length_toList] at h2
 omega
theorem isB_lit (t : ByteArray) (l : Array UInt8) : isB t ⟨l⟩ = (t.toList == l.toList) := by
 unfold isB
 rw [ByteArray.toList_eq ⟨l⟩]
theorem tokM_eq {r : Rdr} {i j : Nat} {x : Lx.Tok} (h : tokM r i = .ok (x, j)) : x = r.L.getD i tok0 ∧ j = i := by
 unfold tokM at h
 simp only [Except.ok.injEq, Prod.mk.injEq] at h
 exact ⟨h.1.symm, h.2.symm⟩
set_option maxRecDepth 100000 in
set_option maxHeartbeats 1000000 in
theorem primary_any (r : Rdr) (i lv : Nat) (s : Bool) (E Bk : PM Tree) (w : World) (h : RdAt r i lv s w) (hE : EndAt r)
  (HNA : ∀ a w1, RdAt r a lv s w1 → Calls Tryz.prog 106 #[.pointer (some ⟨r.b, 0, none⟩)] w1 (RulePost r (namedM r E a) lv s w1))
  (HCO : ∀ a w1, RdAt r a lv s w1 → Calls Tryz.prog 107 #[.pointer (some ⟨r.b, 0, none⟩)] w1 (RulePost r (constructionM r E a) lv s w1))
  (HPA : ∀ a w1, RdAt r a lv s w1 → Calls Tryz.prog 108 #[.pointer (some ⟨r.b, 0, none⟩)] w1 (RulePost r (parenM r E a) lv s w1))
  (HCH : ∀ a w1, RdAt r a lv s w1 → Calls Tryz.prog 109 #[.pointer (some ⟨r.b, 0, none⟩)] w1 (RulePost r (choiceM r E Bk a) lv s w1))
  (HBK : ∀ a w1, RdAt r a lv s w1 → Calls Tryz.prog 89 #[.pointer (some ⟨r.b, 0, none⟩)] w1 (RulePost r (blockM r E Bk a) lv s w1))
  (hI : IntAt r) :
  Calls Tryz.prog 105 #[.pointer (some ⟨r.b, 0, none⟩)] w (RulePost r (primaryM r E Bk i) lv s w) := by
 have HRB : Hid (r.b < w.heap.size) := lt_heap h.cells
 have HR1 := Lib.hid (h.below (boxB w (.cells #[.int .i64 0, .string ⟨#[]⟩, .int .i64 0, .slice none 0 0] 37)))
 have HM1 := Lib.hid (Mv.of_below (r := r) (boxB w (.cells #[.int .i64 0, .string ⟨#[]⟩, .int .i64 0, .slice none 0 0] 37)))
 have HS1 := Lib.hid (ResAt.start w)
 generalize hX0 : primaryM r E Bk i = X
 unfold primaryM at hX0
 have HX1 := Lib.hid hX0
 have HE := Lib.hid hE
 have HNA1 := Lib.hid HNA
 have HCO1 := Lib.hid HCO
 have HPA1 := Lib.hid HPA
 have HCH1 := Lib.hid HCH
 have HBK1 := Lib.hid HBK
 have HI := Lib.hid hI
 clear hX0 h hE HNA HCO HPA HCH HBK hI
 go_enter Tryz.func105, Tryz.ntmps105
 go_wp2_with fail
 generalize w.alloc (.cells #[.int .i64 0, .string ⟨#[]⟩, .int .i64 0, .slice none 0 0] 37) = w1 at *
 refine (tok_x r i lv s w1 HR1.out).mono ?_
 rintro e w2 ⟨x, j2, hx, rfl, hr, hm⟩
 obtain ⟨hxe, hje⟩ := tokM_eq hx
 have HX2 := Lib.hid (bindM_ok hx HX1.out)
 have HR2 := Lib.hid hr
 have HM2 := Lib.hid (HM1.out.trans hm)
 have HS2 := Lib.hid (HS1.out.mv hm HRB.out)
 have HEQ := Lib.hid hxe
 clear hx hr hm HX1 HR1 HM1 HS1 hxe
 subst hje
 have BX := boxB w2 (.cells #[.int .i64 x.kind, .string x.text, .int .i64 x.at_] 55)
 have hm : Mv r w2 (w2.alloc (.cells #[.int .i64 x.kind, .string x.text, .int .i64 x.at_] 55)) := Mv.of_below BX
 have HX3 := HX2
 have HR3 := Lib.hid (HR2.out.below BX)
 have HM3 := Lib.hid (HM2.out.trans hm)
 have HS3 := Lib.hid (HS2.out.mv hm HRB.out)
 have HTKx3 : Hid (TokBox r w w2.heap.size x (w2.alloc (.cells #[.int .i64 x.kind, .string x.text, .int .i64 x.at_] 55))) := ⟨heap_alloc_new w2 _, HS2.out.up (Nat.le_refl _), HRB.out⟩
 clear BX hm HX2 HR2 HM2 HS2
 obtain ⟨g, hg⟩ : ∃ g, w2.heap.size = g := ⟨_, rfl⟩
 rw [hg] at HTKx3
 by_cases hk3 : x.kind = 3
 ·have hk3b : (x.kind == 3) = true := by simp [hk3]
  have hX3 : bindM (takeM r) (fun _ => ndM 20 x.text x.at_ []) j2 = X := by have := HX3.out; rw [if_pos hk3] at this; exact this
  have HX3' := Lib.hid hX3
  clear hX3 HX3
  unfold tkC
  go_wp2_with fail
  rw [hk3] at HR3 HM3 HS3 HTKx3
  generalize w2.alloc (.cells #[.int .i64 3, .string x.text, .int .i64 x.at_] 55) = w3 at *
  (try rw [hg])
  clear hg
  have HX3 := HX3'
  clear HX3'
  refine (take_x r j2 lv s w3 HR3.out (HI.out _ HR3.out.lt (by rw [← HEQ.out]; exact hk3))).mono ?_
  rintro e w4 ⟨y, j4, hx, rfl, hr, hm⟩
  have HX4 := Lib.hid (bindM_ok hx HX3.out)
  have HR4 := Lib.hid hr
  have HM4 := Lib.hid (HM3.out.trans hm)
  have HS4 := Lib.hid (HS3.out.mv hm HRB.out)
  have HTKx4 := Lib.hid (HTKx3.out.mvB hm HRB.out)
  obtain ⟨k0, k1, k2⟩ := HTKx4.out.cells
  unfold tkC
  clear hx hr hm HX3 HR3 HM3 HS3 HTKx3
  go_wp2_with fail
  clear k0 k1 k2
  refine (node_any 20 x.text x.at_ none 0 0 w4).mono ?_
  rintro e w5 ⟨rfl, hb⟩
  have hm : Mv r w4 w5 := Mv.of_below hb
  have HX5 := HX4
  have HR5 := Lib.hid (HR4.out.below hb)
  have HM5 := Lib.hid (HM4.out.trans hm)
  have HS5 := Lib.hid (HS4.out.mv hm HRB.out)
  have HTKx5 := Lib.hid (HTKx4.out.mvB hm HRB.out)
  clear hb hm HX4 HR4 HM4 HS4 HTKx4
  have HW := Lib.hid (res_world r j4 lv s w w5 ⟨20, x.text, x.at_, none, 0, 0⟩ (.mk 20 x.text x.at_ []) HRB.out HM5.out HS5.out.z (IsT.leaf _ _ _ _ _) HR5.out)
  obtain ⟨d0, d1, d2, d3, f0⟩ := HS5.out.cells
  have hX : Except.ok ((.mk 20 x.text x.at_ []), j4) = X := HX5.out
  clear HX5
  subst hX
  (try unfold ndC)
  go_wp2_with fail
  obtain ⟨hcell, hist, hrd, hmv⟩ := HW.out
  exact bodyPost_ret (results_cellT rfl _ _ _ ⟨w.heap.size, 0, none⟩ _ rfl (load_node _ _ ⟨20, x.text, x.at_, none, 0, 0⟩ hcell)) rfl ⟨_, rfl, hist, hrd, hmv⟩
 have hk3b : (x.kind == 3) = false := by simp [hk3]
 by_cases hk1 : x.kind = 1
 ·have hk1b : (x.kind == 1) = true := by simp [hk1]
  have hX3 : (namedM r E) j2 = X := by have := HX3.out; rw [if_neg hk3, if_pos hk1] at this; exact this
  have HX3' := Lib.hid hX3
  clear hX3 HX3
  unfold tkC
  go_wp2_with fail
  rw [hk1] at HR3 HM3 HS3 HTKx3
  generalize w2.alloc (.cells #[.int .i64 1, .string x.text, .int .i64 x.at_] 55) = w3 at *
  (try rw [hg])
  clear hg
  have HX3 := HX3'
  clear HX3'
  refine (HNA1.out j2 w3 HR3.out).mono ?_
  intro e w4 hp
  rcases (RulePost.two (p := namedM r E) hp) with ⟨k, hx, rfl, hm⟩ | ⟨t, j4, hx, q4, rfl, ht, hr, hm⟩
  ·have HM4 := Lib.hid (HM3.out.trans hm)
   have hX := hx.symm.trans HX3.out
   clear hx hm hp
   subst hX
   unfold stopAt
   go_wp2_with fail
   exact ⟨rfl, rfl, HM4.out⟩
  have HX4 := Lib.hid ((hx.symm.trans HX3.out) : Except.ok (t, j4) = X)
  have HR4 := Lib.hid hr
  have HM4 := Lib.hid (HM3.out.trans hm)
  have HS4 := Lib.hid (HS3.out.mv hm HRB.out)
  have HTt4 : Hid (IsT (fun b => w.heap.size < b) w4 q4 t) := ht.mono (fun b hb => HS3.out.up hb)
  unfold ndC
  clear hp hx ht hr hm HX3 HR3 HM3 HS3 HTKx3
  have HW := Lib.hid (res_world r j4 lv s w w4 q4 t HRB.out HM4.out HS4.out.z HTt4.out HR4.out)
  obtain ⟨d0, d1, d2, d3, f0⟩ := HS4.out.cells
  have hX : Except.ok (t, j4) = X := HX4.out
  clear HX4
  subst hX
  (try unfold ndC)
  go_wp2_with fail
  obtain ⟨hcell, hist, hrd, hmv⟩ := HW.out
  exact bodyPost_ret (results_cellT rfl _ _ _ ⟨w.heap.size, 0, none⟩ _ rfl (load_node _ _ q4 hcell)) rfl ⟨_, rfl, hist, hrd, hmv⟩
 have hk1b : (x.kind == 1) = false := by simp [hk1]
 cases h_tr : isB x.text ⟨#[116, 114, 117, 101]⟩
 rotate_left
 ·skip
  have e_tr : (x.text.toList == [116, 114, 117, 101]) = true := by rw [← h_tr, isB_lit]
  have hX3 : bindM (takeM r) (fun _ => ndM 21 x.text x.at_ []) j2 = X := by have := HX3.out; rw [if_neg hk3, if_neg hk1, if_pos (.inl h_tr)] at this; exact this
  have HX3' := Lib.hid hX3
  clear hX3 HX3
  unfold tkC
  go_wp2_with fail
  generalize w2.alloc (.cells #[.int .i64 x.kind, .string x.text, .int .i64 x.at_] 55) = w3 at *
  (try rw [hg])
  clear hg
  have HX3 := HX3'
  clear HX3'
  refine (take_x r j2 lv s w3 HR3.out (HE.out _ HR3.out.lt (.inr (by rw [← HEQ.out]; exact isB_size h_tr (by decide))))).mono ?_
  rintro e w4 ⟨y, j4, hx, rfl, hr, hm⟩
  have HX4 := Lib.hid (bindM_ok hx HX3.out)
  have HR4 := Lib.hid hr
  have HM4 := Lib.hid (HM3.out.trans hm)
  have HS4 := Lib.hid (HS3.out.mv hm HRB.out)
  have HTKx4 := Lib.hid (HTKx3.out.mvB hm HRB.out)
  obtain ⟨k0, k1, k2⟩ := HTKx4.out.cells
  unfold tkC
  clear hx hr hm HX3 HR3 HM3 HS3 HTKx3
  go_wp2_with fail
  clear k0 k1 k2
  refine (node_any 21 x.text x.at_ none 0 0 w4).mono ?_
  rintro e w5 ⟨rfl, hb⟩
  have hm : Mv r w4 w5 := Mv.of_below hb
  have HX5 := HX4
  have HR5 := Lib.hid (HR4.out.below hb)
  have HM5 := Lib.hid (HM4.out.trans hm)
  have HS5 := Lib.hid (HS4.out.mv hm HRB.out)
  have HTKx5 := Lib.hid (HTKx4.out.mvB hm HRB.out)
  clear hb hm HX4 HR4 HM4 HS4 HTKx4
  have HW := Lib.hid (res_world r j4 lv s w w5 ⟨21, x.text, x.at_, none, 0, 0⟩ (.mk 21 x.text x.at_ []) HRB.out HM5.out HS5.out.z (IsT.leaf _ _ _ _ _) HR5.out)
  obtain ⟨d0, d1, d2, d3, f0⟩ := HS5.out.cells
  have hX : Except.ok ((.mk 21 x.text x.at_ []), j4) = X := HX5.out
  clear HX5
  subst hX
  (try unfold ndC)
  go_wp2_with fail
  obtain ⟨hcell, hist, hrd, hmv⟩ := HW.out
  exact bodyPost_ret (results_cellT rfl _ _ _ ⟨w.heap.size, 0, none⟩ _ rfl (load_node _ _ ⟨21, x.text, x.at_, none, 0, 0⟩ hcell)) rfl ⟨_, rfl, hist, hrd, hmv⟩
 cases h_fa : isB x.text ⟨#[102, 97, 108, 115, 101]⟩
 rotate_left
 ·skip
  have e_tr : (x.text.toList == [116, 114, 117, 101]) = false := by rw [← h_tr, isB_lit]
  have e_fa : (x.text.toList == [102, 97, 108, 115, 101]) = true := by rw [← h_fa, isB_lit]
  have hX3 : bindM (takeM r) (fun _ => ndM 21 x.text x.at_ []) j2 = X := by have := HX3.out; rw [if_neg hk3, if_neg hk1, if_pos (.inr h_fa)] at this; exact this
  have HX3' := Lib.hid hX3
  clear hX3 HX3
  unfold tkC
  go_wp2_with fail
  generalize w2.alloc (.cells #[.int .i64 x.kind, .string x.text, .int .i64 x.at_] 55) = w3 at *
  (try rw [hg])
  clear hg
  have HX3 := HX3'
  clear HX3'
  refine (take_x r j2 lv s w3 HR3.out (HE.out _ HR3.out.lt (.inr (by rw [← HEQ.out]; exact isB_size h_fa (by decide))))).mono ?_
  rintro e w4 ⟨y, j4, hx, rfl, hr, hm⟩
  have HX4 := Lib.hid (bindM_ok hx HX3.out)
  have HR4 := Lib.hid hr
  have HM4 := Lib.hid (HM3.out.trans hm)
  have HS4 := Lib.hid (HS3.out.mv hm HRB.out)
  have HTKx4 := Lib.hid (HTKx3.out.mvB hm HRB.out)
  obtain ⟨k0, k1, k2⟩ := HTKx4.out.cells
  unfold tkC
  clear hx hr hm HX3 HR3 HM3 HS3 HTKx3
  go_wp2_with fail
  clear k0 k1 k2
  refine (node_any 21 x.text x.at_ none 0 0 w4).mono ?_
  rintro e w5 ⟨rfl, hb⟩
  have hm : Mv r w4 w5 := Mv.of_below hb
  have HX5 := HX4
  have HR5 := Lib.hid (HR4.out.below hb)
  have HM5 := Lib.hid (HM4.out.trans hm)
  have HS5 := Lib.hid (HS4.out.mv hm HRB.out)
  have HTKx5 := Lib.hid (HTKx4.out.mvB hm HRB.out)
  clear hb hm HX4 HR4 HM4 HS4 HTKx4
  have HW := Lib.hid (res_world r j4 lv s w w5 ⟨21, x.text, x.at_, none, 0, 0⟩ (.mk 21 x.text x.at_ []) HRB.out HM5.out HS5.out.z (IsT.leaf _ _ _ _ _) HR5.out)
  obtain ⟨d0, d1, d2, d3, f0⟩ := HS5.out.cells
  have hX : Except.ok ((.mk 21 x.text x.at_ []), j4) = X := HX5.out
  clear HX5
  subst hX
  (try unfold ndC)
  go_wp2_with fail
  obtain ⟨hcell, hist, hrd, hmv⟩ := HW.out
  exact bodyPost_ret (results_cellT rfl _ _ _ ⟨w.heap.size, 0, none⟩ _ rfl (load_node _ _ ⟨21, x.text, x.at_, none, 0, 0⟩ hcell)) rfl ⟨_, rfl, hist, hrd, hmv⟩
 cases h_ne : isB x.text ⟨#[110, 101, 119]⟩
 rotate_left
 ·skip
  have e_tr : (x.text.toList == [116, 114, 117, 101]) = false := by rw [← h_tr, isB_lit]
  have e_fa : (x.text.toList == [102, 97, 108, 115, 101]) = false := by rw [← h_fa, isB_lit]
  have e_ne : (x.text.toList == [110, 101, 119]) = true := by rw [← h_ne, isB_lit]
  have hX3 : (constructionM r E) j2 = X := by have := HX3.out; rw [if_neg hk3, if_neg hk1, if_neg (by rw [h_tr, h_fa]; simp), if_pos h_ne] at this; exact this
  have HX3' := Lib.hid hX3
  clear hX3 HX3
  unfold tkC
  go_wp2_with fail
  generalize w2.alloc (.cells #[.int .i64 x.kind, .string x.text, .int .i64 x.at_] 55) = w3 at *
  (try rw [hg])
  clear hg
  have HX3 := HX3'
  clear HX3'
  refine (HCO1.out j2 w3 HR3.out).mono ?_
  intro e w4 hp
  rcases (RulePost.two (p := constructionM r E) hp) with ⟨k, hx, rfl, hm⟩ | ⟨t, j4, hx, q4, rfl, ht, hr, hm⟩
  ·have HM4 := Lib.hid (HM3.out.trans hm)
   have hX := hx.symm.trans HX3.out
   clear hx hm hp
   subst hX
   unfold stopAt
   go_wp2_with fail
   exact ⟨rfl, rfl, HM4.out⟩
  have HX4 := Lib.hid ((hx.symm.trans HX3.out) : Except.ok (t, j4) = X)
  have HR4 := Lib.hid hr
  have HM4 := Lib.hid (HM3.out.trans hm)
  have HS4 := Lib.hid (HS3.out.mv hm HRB.out)
  have HTt4 : Hid (IsT (fun b => w.heap.size < b) w4 q4 t) := ht.mono (fun b hb => HS3.out.up hb)
  unfold ndC
  clear hp hx ht hr hm HX3 HR3 HM3 HS3 HTKx3
  have HW := Lib.hid (res_world r j4 lv s w w4 q4 t HRB.out HM4.out HS4.out.z HTt4.out HR4.out)
  obtain ⟨d0, d1, d2, d3, f0⟩ := HS4.out.cells
  have hX : Except.ok (t, j4) = X := HX4.out
  clear HX4
  subst hX
  (try unfold ndC)
  go_wp2_with fail
  obtain ⟨hcell, hist, hrd, hmv⟩ := HW.out
  exact bodyPost_ret (results_cellT rfl _ _ _ ⟨w.heap.size, 0, none⟩ _ rfl (load_node _ _ q4 hcell)) rfl ⟨_, rfl, hist, hrd, hmv⟩
 cases h_pa : isB x.text ⟨#[40]⟩
 rotate_left
 ·skip
  have e_tr : (x.text.toList == [116, 114, 117, 101]) = false := by rw [← h_tr, isB_lit]
  have e_fa : (x.text.toList == [102, 97, 108, 115, 101]) = false := by rw [← h_fa, isB_lit]
  have e_ne : (x.text.toList == [110, 101, 119]) = false := by rw [← h_ne, isB_lit]
  have e_pa : (x.text.toList == [40]) = true := by rw [← h_pa, isB_lit]
  have hX3 : (parenM r E) j2 = X := by have := HX3.out; rw [if_neg hk3, if_neg hk1, if_neg (by rw [h_tr, h_fa]; simp), if_neg (by rw [h_ne]; simp), if_pos h_pa] at this; exact this
  have HX3' := Lib.hid hX3
  clear hX3 HX3
  unfold tkC
  go_wp2_with fail
  generalize w2.alloc (.cells #[.int .i64 x.kind, .string x.text, .int .i64 x.at_] 55) = w3 at *
  (try rw [hg])
  clear hg
  have HX3 := HX3'
  clear HX3'
  refine (HPA1.out j2 w3 HR3.out).mono ?_
  intro e w4 hp
  rcases (RulePost.two (p := parenM r E) hp) with ⟨k, hx, rfl, hm⟩ | ⟨t, j4, hx, q4, rfl, ht, hr, hm⟩
  ·have HM4 := Lib.hid (HM3.out.trans hm)
   have hX := hx.symm.trans HX3.out
   clear hx hm hp
   subst hX
   unfold stopAt
   go_wp2_with fail
   exact ⟨rfl, rfl, HM4.out⟩
  have HX4 := Lib.hid ((hx.symm.trans HX3.out) : Except.ok (t, j4) = X)
  have HR4 := Lib.hid hr
  have HM4 := Lib.hid (HM3.out.trans hm)
  have HS4 := Lib.hid (HS3.out.mv hm HRB.out)
  have HTt4 : Hid (IsT (fun b => w.heap.size < b) w4 q4 t) := ht.mono (fun b hb => HS3.out.up hb)
  unfold ndC
  clear hp hx ht hr hm HX3 HR3 HM3 HS3 HTKx3
  have HW := Lib.hid (res_world r j4 lv s w w4 q4 t HRB.out HM4.out HS4.out.z HTt4.out HR4.out)
  obtain ⟨d0, d1, d2, d3, f0⟩ := HS4.out.cells
  have hX : Except.ok (t, j4) = X := HX4.out
  clear HX4
  subst hX
  (try unfold ndC)
  go_wp2_with fail
  obtain ⟨hcell, hist, hrd, hmv⟩ := HW.out
  exact bodyPost_ret (results_cellT rfl _ _ _ ⟨w.heap.size, 0, none⟩ _ rfl (load_node _ _ q4 hcell)) rfl ⟨_, rfl, hist, hrd, hmv⟩
 cases h_ifw : isB x.text ⟨#[105, 102]⟩
 rotate_left
 ·skip
  have e_tr : (x.text.toList == [116, 114, 117, 101]) = false := by rw [← h_tr, isB_lit]
  have e_fa : (x.text.toList == [102, 97, 108, 115, 101]) = false := by rw [← h_fa, isB_lit]
  have e_ne : (x.text.toList == [110, 101, 119]) = false := by rw [← h_ne, isB_lit]
  have e_pa : (x.text.toList == [40]) = false := by rw [← h_pa, isB_lit]
  have e_ifw : (x.text.toList == [105, 102]) = true := by rw [← h_ifw, isB_lit]
  have hX3 : (choiceM r E Bk) j2 = X := by have := HX3.out; rw [if_neg hk3, if_neg hk1, if_neg (by rw [h_tr, h_fa]; simp), if_neg (by rw [h_ne]; simp), if_neg (by rw [h_pa]; simp), if_pos h_ifw] at this; exact this
  have HX3' := Lib.hid hX3
  clear hX3 HX3
  unfold tkC
  go_wp2_with fail
  generalize w2.alloc (.cells #[.int .i64 x.kind, .string x.text, .int .i64 x.at_] 55) = w3 at *
  (try rw [hg])
  clear hg
  have HX3 := HX3'
  clear HX3'
  refine (HCH1.out j2 w3 HR3.out).mono ?_
  intro e w4 hp
  rcases (RulePost.two (p := choiceM r E Bk) hp) with ⟨k, hx, rfl, hm⟩ | ⟨t, j4, hx, q4, rfl, ht, hr, hm⟩
  ·have HM4 := Lib.hid (HM3.out.trans hm)
   have hX := hx.symm.trans HX3.out
   clear hx hm hp
   subst hX
   unfold stopAt
   go_wp2_with fail
   exact ⟨rfl, rfl, HM4.out⟩
  have HX4 := Lib.hid ((hx.symm.trans HX3.out) : Except.ok (t, j4) = X)
  have HR4 := Lib.hid hr
  have HM4 := Lib.hid (HM3.out.trans hm)
  have HS4 := Lib.hid (HS3.out.mv hm HRB.out)
  have HTt4 : Hid (IsT (fun b => w.heap.size < b) w4 q4 t) := ht.mono (fun b hb => HS3.out.up hb)
  unfold ndC
  clear hp hx ht hr hm HX3 HR3 HM3 HS3 HTKx3
  have HW := Lib.hid (res_world r j4 lv s w w4 q4 t HRB.out HM4.out HS4.out.z HTt4.out HR4.out)
  obtain ⟨d0, d1, d2, d3, f0⟩ := HS4.out.cells
  have hX : Except.ok (t, j4) = X := HX4.out
  clear HX4
  subst hX
  (try unfold ndC)
  go_wp2_with fail
  obtain ⟨hcell, hist, hrd, hmv⟩ := HW.out
  exact bodyPost_ret (results_cellT rfl _ _ _ ⟨w.heap.size, 0, none⟩ _ rfl (load_node _ _ q4 hcell)) rfl ⟨_, rfl, hist, hrd, hmv⟩
 cases h_br : isB x.text ⟨#[123]⟩
 rotate_left
 ·skip
  have e_tr : (x.text.toList == [116, 114, 117, 101]) = false := by rw [← h_tr, isB_lit]
  have e_fa : (x.text.toList == [102, 97, 108, 115, 101]) = false := by rw [← h_fa, isB_lit]
  have e_ne : (x.text.toList == [110, 101, 119]) = false := by rw [← h_ne, isB_lit]
  have e_pa : (x.text.toList == [40]) = false := by rw [← h_pa, isB_lit]
  have e_ifw : (x.text.toList == [105, 102]) = false := by rw [← h_ifw, isB_lit]
  have e_br : (x.text.toList == [123]) = true := by rw [← h_br, isB_lit]
  have hX3 : (blockM r E Bk) j2 = X := by have := HX3.out; rw [if_neg hk3, if_neg hk1, if_neg (by rw [h_tr, h_fa]; simp), if_neg (by rw [h_ne]; simp), if_neg (by rw [h_pa]; simp), if_neg (by rw [h_ifw]; simp), if_pos h_br] at this; exact this
  have HX3' := Lib.hid hX3
  clear hX3 HX3
  unfold tkC
  go_wp2_with fail
  generalize w2.alloc (.cells #[.int .i64 x.kind, .string x.text, .int .i64 x.at_] 55) = w3 at *
  (try rw [hg])
  clear hg
  have HX3 := HX3'
  clear HX3'
  refine (HBK1.out j2 w3 HR3.out).mono ?_
  intro e w4 hp
  rcases (RulePost.two (p := blockM r E Bk) hp) with ⟨k, hx, rfl, hm⟩ | ⟨t, j4, hx, q4, rfl, ht, hr, hm⟩
  ·have HM4 := Lib.hid (HM3.out.trans hm)
   have hX := hx.symm.trans HX3.out
   clear hx hm hp
   subst hX
   unfold stopAt
   go_wp2_with fail
   exact ⟨rfl, rfl, HM4.out⟩
  have HX4 := Lib.hid ((hx.symm.trans HX3.out) : Except.ok (t, j4) = X)
  have HR4 := Lib.hid hr
  have HM4 := Lib.hid (HM3.out.trans hm)
  have HS4 := Lib.hid (HS3.out.mv hm HRB.out)
  have HTt4 : Hid (IsT (fun b => w.heap.size < b) w4 q4 t) := ht.mono (fun b hb => HS3.out.up hb)
  unfold ndC
  clear hp hx ht hr hm HX3 HR3 HM3 HS3 HTKx3
  have HW := Lib.hid (res_world r j4 lv s w w4 q4 t HRB.out HM4.out HS4.out.z HTt4.out HR4.out)
  obtain ⟨d0, d1, d2, d3, f0⟩ := HS4.out.cells
  have hX : Except.ok (t, j4) = X := HX4.out
  clear HX4
  subst hX
  (try unfold ndC)
  go_wp2_with fail
  obtain ⟨hcell, hist, hrd, hmv⟩ := HW.out
  exact bodyPost_ret (results_cellT rfl _ _ _ ⟨w.heap.size, 0, none⟩ _ rfl (load_node _ _ q4 hcell)) rfl ⟨_, rfl, hist, hrd, hmv⟩
 have e_tr : (x.text.toList == [116, 114, 117, 101]) = false := by rw [← h_tr, isB_lit]
 have e_fa : (x.text.toList == [102, 97, 108, 115, 101]) = false := by rw [← h_fa, isB_lit]
 have e_ne : (x.text.toList == [110, 101, 119]) = false := by rw [← h_ne, isB_lit]
 have e_pa : (x.text.toList == [40]) = false := by rw [← h_pa, isB_lit]
 have e_ifw : (x.text.toList == [105, 102]) = false := by rw [← h_ifw, isB_lit]
 have e_br : (x.text.toList == [123]) = false := by rw [← h_br, isB_lit]
 have hX3 : (failM : PM Tree) j2 = X := by have := HX3.out; rw [if_neg hk3, if_neg hk1, if_neg (by rw [h_tr, h_fa]; simp), if_neg (by rw [h_ne]; simp), if_neg (by rw [h_pa]; simp), if_neg (by rw [h_ifw]; simp), if_neg (by rw [h_br]; simp)] at this; exact this
 clear HX3
 unfold tkC
 go_wp2_with fail
 generalize w2.alloc (.cells #[.int .i64 x.kind, .string x.text, .int .i64 x.at_] 55) = w3 at *
 refine (fail_x r j2 lv s w3 HR3.out).mono ?_
 rintro e w4 ⟨k, hx, rfl, hm⟩
 have HM4 := Lib.hid (HM3.out.trans hm)
 have hX := hx.symm.trans hX3
 clear hx hm hX3
 subst hX
 unfold stopAt
 go_wp2_with fail
 exact ⟨rfl, rfl, HM4.out⟩
end Go.Proofs.YtheigpiffdabnaaGreat
