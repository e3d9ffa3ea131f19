/-
  CONTRACTS: itemOf, item.
-/
import Derived.Test.YtheigpiffdabnaaGreatZA10
import Derived.Defers
import Derived.Recover
import Derived.Laws.Pointers
set_option linter.unusedSimpArgs false
set_option linter.unusedVariables false
namespace Go.Proofs.YtheigpiffdabnaaGreat
open Go Go.RowKit
theorem neq_func (F : FuncId) (w : World) : (binOp .neq 58 (.func (.func F) #[] #[]) .nilFunc).run Tryz.prog w = .ok (.bool true) w := by kernel_rfl
theorem neq_nilf (w : World) : (binOp .neq 58 .nilFunc .nilFunc).run Tryz.prog w = .ok (.bool false) w := by kernel_rfl
attribute [local go_sem] field_tok0 field_tok1 field_tok2 neq_func neq_nilf
/-- the rule of the items that begin with a word -/
def itemV (t : ByteArray) : Value :=
 if isB t ⟨#[117, 115, 101]⟩ = true then .func (.func 40) #[] #[] else
 if isB t ⟨#[112, 117, 98]⟩ = true then .func (.func 41) #[] #[] else
 if isB t ⟨#[99, 111, 110, 115, 116]⟩ = true then .func (.func 42) #[] #[] else
 if isB t ⟨#[102, 110]⟩ = true then .func (.func 43) #[] #[] else
 if isB t ⟨#[116, 121, 112, 101]⟩ = true then .func (.func 44) #[] #[] else
 if isB t ⟨#[116, 114, 97, 105, 116]⟩ = true then .func (.func 45) #[] #[] else
 if isB t ⟨#[105, 109, 112, 108]⟩ = true then .func (.func 46) #[] #[] else
 if isB t ⟨#[109, 97, 99, 114, 111]⟩ = true then .func (.func 47) #[] #[] else
 .nilFunc
/-- whether a word begins an item -/
def begins (t : ByteArray) : Bool := isB t ⟨#[117, 115, 101]⟩ || isB t ⟨#[112, 117, 98]⟩ || isB t ⟨#[99, 111, 110, 115, 116]⟩ || isB t ⟨#[102, 110]⟩ || isB t ⟨#[116, 121, 112, 101]⟩ || isB t ⟨#[116, 114, 97, 105, 116]⟩ || isB t ⟨#[105, 109, 112, 108]⟩ || isB t ⟨#[109, 97, 99, 114, 111]⟩
set_option maxRecDepth 100000 in
set_option maxHeartbeats 1000000 in
theorem itemOf_any (t : ByteArray) (w : World) :
  Calls Tryz.prog 29 #[.string t] w fun e w' => e = .returned (itemV t) ∧ w' = w := by
 unfold itemV
 cases h0 : isB t ⟨#[117, 115, 101]⟩
 rotate_left
 ·rw [if_pos rfl]
  have e0 : (t.toList == [117, 115, 101]) = true := by rw [← h0, isB_lit]
  go_enter Tryz.func29, Tryz.ntmps29
  go_wp2_with fail
  go_ret
  exact ⟨rfl, rfl⟩
 cases h1 : isB t ⟨#[112, 117, 98]⟩
 rotate_left
 ·rw [if_neg (by decide), if_pos rfl]
  have e0 : (t.toList == [117, 115, 101]) = false := by rw [← h0, isB_lit]
  have e1 : (t.toList == [112, 117, 98]) = true := by rw [← h1, isB_lit]
  go_enter Tryz.func29, Tryz.ntmps29
  go_wp2_with fail
  go_ret
  exact ⟨rfl, rfl⟩
 cases h2 : isB t ⟨#[99, 111, 110, 115, 116]⟩
 rotate_left
 ·rw [if_neg (by decide), if_neg (by decide), if_pos rfl]
  have e0 : (t.toList == [117, 115, 101]) = false := by rw [← h0, isB_lit]
  have e1 : (t.toList == [112, 117, 98]) = false := by rw [← h1, isB_lit]
  have e2 : (t.toList == [99, 111, 110, 115, 116]) = true := by rw [← h2, isB_lit]
  go_enter Tryz.func29, Tryz.ntmps29
  go_wp2_with fail
  go_ret
  exact ⟨rfl, rfl⟩
 cases h3 : isB t ⟨#[102, 110]⟩
 rotate_left
 ·rw [if_neg (by decide), if_neg (by decide), if_neg (by decide), if_pos rfl]
  have e0 : (t.toList == [117, 115, 101]) = false := by rw [← h0, isB_lit]
  have e1 : (t.toList == [112, 117, 98]) = false := by rw [← h1, isB_lit]
  have e2 : (t.toList == [99, 111, 110, 115, 116]) = false := by rw [← h2, isB_lit]
  have e3 : (t.toList == [102, 110]) = true := by rw [← h3, isB_lit]
  go_enter Tryz.func29, Tryz.ntmps29
  go_wp2_with fail
  go_ret
  exact ⟨rfl, rfl⟩
 cases h4 : isB t ⟨#[116, 121, 112, 101]⟩
 rotate_left
 ·rw [if_neg (by decide), if_neg (by decide), if_neg (by decide), if_neg (by decide), if_pos rfl]
  have e0 : (t.toList == [117, 115, 101]) = false := by rw [← h0, isB_lit]
  have e1 : (t.toList == [112, 117, 98]) = false := by rw [← h1, isB_lit]
  have e2 : (t.toList == [99, 111, 110, 115, 116]) = false := by rw [← h2, isB_lit]
  have e3 : (t.toList == [102, 110]) = false := by rw [← h3, isB_lit]
  have e4 : (t.toList == [116, 121, 112, 101]) = true := by rw [← h4, isB_lit]
  go_enter Tryz.func29, Tryz.ntmps29
  go_wp2_with fail
  go_ret
  exact ⟨rfl, rfl⟩
 cases h5 : isB t ⟨#[116, 114, 97, 105, 116]⟩
 rotate_left
 ·rw [if_neg (by decide), if_neg (by decide), if_neg (by decide), if_neg (by decide), if_neg (by decide), if_pos rfl]
  have e0 : (t.toList == [117, 115, 101]) = false := by rw [← h0, isB_lit]
  have e1 : (t.toList == [112, 117, 98]) = false := by rw [← h1, isB_lit]
  have e2 : (t.toList == [99, 111, 110, 115, 116]) = false := by rw [← h2, isB_lit]
  have e3 : (t.toList == [102, 110]) = false := by rw [← h3, isB_lit]
  have e4 : (t.toList == [116, 121, 112, 101]) = false := by rw [← h4, isB_lit]
  have e5 : (t.toList == [116, 114, 97, 105, 116]) = true := by rw [← h5, isB_lit]
  go_enter Tryz.func29, Tryz.ntmps29
  go_wp2_with fail
  go_ret
  exact ⟨rfl, rfl⟩
 cases h6 : isB t ⟨#[105, 109, 112, 108]⟩
 rotate_left
 ·rw [if_neg (by decide), if_neg (by decide), if_neg (by decide), if_neg (by decide), if_neg (by decide), if_neg (by decide), if_pos rfl]
  have e0 : (t.toList == [117, 115, 101]) = false := by rw [← h0, isB_lit]
  have e1 : (t.toList == [112, 117, 98]) = false := by rw [← h1, isB_lit]
  have e2 : (t.toList == [99, 111, 110, 115, 116]) = false := by rw [← h2, isB_lit]
  have e3 : (t.toList == [102, 110]) = false := by rw [← h3, isB_lit]
  have e4 : (t.toList == [116, 121, 112, 101]) = false := by rw [← h4, isB_lit]
  have e5 : (t.toList == [116, 114, 97, 105, 116]) = false := by rw [← h5, isB_lit]
  have e6 : (t.toList == [105, 109, 112, 108]) = true := by rw [← h6, isB_lit]
  go_enter Tryz.func29, Tryz.ntmps29
  go_wp2_with fail
  go_ret
  exact ⟨rfl, rfl⟩
 cases h7 : isB t ⟨#[109, 97, 99, 114, 111]⟩
 rotate_left
 ·rw [if_neg (by decide), if_neg (by decide), if_neg (by decide), if_neg (by decide), if_neg (by decide), if_neg (by decide), if_neg (by decide), if_pos rfl]
  have e0 : (t.toList == [117, 115, 101]) = false := by rw [← h0, isB_lit]
  have e1 : (t.toList == [112, 117, 98]) = false := by rw [← h1, isB_lit]
  have e2 : (t.toList == [99, 111, 110, 115, 116]) = false := by rw [← h2, isB_lit]
  have e3 : (t.toList == [102, 110]) = false := by rw [← h3, isB_lit]
  have e4 : (t.toList == [116, 121, 112, 101]) = false := by rw [← h4, isB_lit]
  have e5 : (t.toList == [116, 114, 97, 105, 116]) = false := by rw [← h5, isB_lit]
  have e6 : (t.toList == [105, 109, 112, 108]) = false := by rw [← h6, isB_lit]
  have e7 : (t.toList == [109, 97, 99, 114, 111]) = true := by rw [← h7, isB_lit]
  go_enter Tryz.func29, Tryz.ntmps29
  go_wp2_with fail
  go_ret
  exact ⟨rfl, rfl⟩
 ·rw [if_neg (by decide), if_neg (by decide), if_neg (by decide), if_neg (by decide), if_neg (by decide), if_neg (by decide), if_neg (by decide), if_neg (by decide)]
  have e0 : (t.toList == [117, 115, 101]) = false := by rw [← h0, isB_lit]
  have e1 : (t.toList == [112, 117, 98]) = false := by rw [← h1, isB_lit]
  have e2 : (t.toList == [99, 111, 110, 115, 116]) = false := by rw [← h2, isB_lit]
  have e3 : (t.toList == [102, 110]) = false := by rw [← h3, isB_lit]
  have e4 : (t.toList == [116, 121, 112, 101]) = false := by rw [← h4, isB_lit]
  have e5 : (t.toList == [116, 114, 97, 105, 116]) = false := by rw [← h5, isB_lit]
  have e6 : (t.toList == [105, 109, 112, 108]) = false := by rw [← h6, isB_lit]
  have e7 : (t.toList == [109, 97, 99, 114, 111]) = false := by rw [← h7, isB_lit]
  go_enter Tryz.func29, Tryz.ntmps29
  go_wp2_with fail
  go_ret
  exact ⟨rfl, rfl⟩
/-- what an item leaves: its types may have read Self -/
def ItemPost (r : Rdr) (x : Except Nat (Tree × Nat)) (lv : Nat) (w : World) (e : Ending) (w' : World) : Prop :=
 match x with
 | .ok (t, j) => ∃ (q : Raw) (s : Bool), e = .returned (.agg (ndC q)) ∧ IsT (fun b => w.heap.size ≤ b) w' q t ∧ RdAt r j lv s w' ∧ Mv r w w'
 | .error k => e = stopAt k ∧ Mv r w w'
def itemM (r : Rdr) (T T1 E Bk : PM Tree) : PM Tree := bindM (tokM r) fun x =>
 if isB x.text ⟨#[117, 115, 101]⟩ = true then useP r else
 if isB x.text ⟨#[112, 117, 98]⟩ = true then pubUseP r else
 if isB x.text ⟨#[99, 111, 110, 115, 116]⟩ = true then constantM r T E else
 if isB x.text ⟨#[102, 110]⟩ = true then functionM r (paramsP r) T Bk else
 if isB x.text ⟨#[116, 121, 112, 101]⟩ = true then recordM r T else
 if isB x.text ⟨#[116, 114, 97, 105, 116]⟩ = true then traitM r T1 else
 if isB x.text ⟨#[105, 109, 112, 108]⟩ = true then implM r T Bk else
 if isB x.text ⟨#[109, 97, 99, 114, 111]⟩ = true then macroM r E else
 failM
theorem itemM_eq {r : Rdr} {T T1 E Bk : PM Tree} {i : Nat} : itemM r T T1 E Bk i = (
 if isB (r.L.getD i tok0).text ⟨#[117, 115, 101]⟩ = true then useP r else
 if isB (r.L.getD i tok0).text ⟨#[112, 117, 98]⟩ = true then pubUseP r else
 if isB (r.L.getD i tok0).text ⟨#[99, 111, 110, 115, 116]⟩ = true then constantM r T E else
 if isB (r.L.getD i tok0).text ⟨#[102, 110]⟩ = true then functionM r (paramsP r) T Bk else
 if isB (r.L.getD i tok0).text ⟨#[116, 121, 112, 101]⟩ = true then recordM r T else
 if isB (r.L.getD i tok0).text ⟨#[116, 114, 97, 105, 116]⟩ = true then traitM r T1 else
 if isB (r.L.getD i tok0).text ⟨#[105, 109, 112, 108]⟩ = true then implM r T Bk else
 if isB (r.L.getD i tok0).text ⟨#[109, 97, 99, 114, 111]⟩ = true then macroM r E else
 failM) i := rfl
set_option maxRecDepth 100000 in
set_option maxHeartbeats 1000000 in
theorem item_any (r : Rdr) (i lv : Nat) (s : Bool) (T T1 E Bk : PM Tree) (w : World) (h : RdAt r i lv s w) (hE : EndAt r)
  (Huse : ∀ a w1, RdAt r a lv s w1 → Calls Tryz.prog 40 #[.pointer (some ⟨r.b, 0, none⟩)] w1 (RulePost r (useP r a) lv s w1))
  (Hpub : ∀ a w1, RdAt r a lv s w1 → Calls Tryz.prog 41 #[.pointer (some ⟨r.b, 0, none⟩)] w1 (RulePost r (pubUseP r a) lv s w1))
  (Hconst : ∀ a w1, RdAt r a lv s w1 → Calls Tryz.prog 42 #[.pointer (some ⟨r.b, 0, none⟩)] w1 (RulePost r (constantM r T E a) lv s w1))
  (Hfn : ∀ a w1, RdAt r a lv s w1 → Calls Tryz.prog 43 #[.pointer (some ⟨r.b, 0, none⟩)] w1 (RulePost r (functionM r (paramsP r) T Bk a) lv s w1))
  (Htype : ∀ a w1, RdAt r a lv s w1 → Calls Tryz.prog 44 #[.pointer (some ⟨r.b, 0, none⟩)] w1 (RulePost r (recordM r T a) lv s w1))
  (Htrait : ∀ a w1, RdAt r a lv s w1 → Calls Tryz.prog 45 #[.pointer (some ⟨r.b, 0, none⟩)] w1 (RulePost r (traitM r T1 a) lv true w1))
  (Himpl : ∀ a w1, RdAt r a lv s w1 → Calls Tryz.prog 46 #[.pointer (some ⟨r.b, 0, none⟩)] w1 (RulePost r (implM r T Bk a) lv s w1))
  (Hmacro : ∀ a w1, RdAt r a lv s w1 → Calls Tryz.prog 47 #[.pointer (some ⟨r.b, 0, none⟩)] w1 (RulePost r (macroM r E a) lv s w1)) :
  Calls Tryz.prog 20 #[.pointer (some ⟨r.b, 0, none⟩)] w (ItemPost r (itemM r T T1 E Bk i) lv w) := by
 have HRB : Hid (r.b < w.heap.size) := lt_heap h.cells
 have HR1 := Lib.hid (h.below (boxB w (.cells #[.int .i64 0, .string ⟨#[]⟩, .int .i64 0, .slice none 0 0] 37)))
 have HM1 := Lib.hid (Mv.of_below (r := r) (boxB w (.cells #[.int .i64 0, .string ⟨#[]⟩, .int .i64 0, .slice none 0 0] 37)))
 have HS1 := Lib.hid (ResAt.start w)
 generalize hX0 : itemM r T T1 E Bk i = X
 have HX1 := Lib.hid hX0
 have HE := Lib.hid hE
 have HHuse := Lib.hid Huse
 have HHpub := Lib.hid Hpub
 have HHconst := Lib.hid Hconst
 have HHfn := Lib.hid Hfn
 have HHtype := Lib.hid Htype
 have HHtrait := Lib.hid Htrait
 have HHimpl := Lib.hid Himpl
 have HHmacro := Lib.hid Hmacro
 clear hX0 h hE Huse Hpub Hconst Hfn Htype Htrait Himpl Hmacro
 go_enter Tryz.func20, Tryz.ntmps20
 go_wp2_with fail
 generalize w.alloc (.cells #[.int .i64 0, .string ⟨#[]⟩, .int .i64 0, .slice none 0 0] 37) = w1 at *
 refine (token_any r i lv s w1 HR1.out).mono ?_
 rintro e w2 ⟨rfl, hb⟩
 have HX2 := HX1
 have HR2 := Lib.hid (HR1.out.below hb)
 have HM2 := Lib.hid (HM1.out.trans (Mv.of_below hb))
 have HS2 := Lib.hid (HS1.out.mv (Mv.of_below hb) HRB.out)
 clear hb HX1 HR1 HM1 HS1
 have hX0 := HX2.out
 clear HX2
 rw [itemM_eq] at hX0
 generalize (r.L.getD i tok0).kind = kd at *
 generalize (r.L.getD i tok0).text = tx at *
 generalize (r.L.getD i tok0).at_ = ax at *
 have HIT := itemOf_any tx
 unfold tkC
 go_wp2_with fail
 refine (HIT w2).mono ?_
 rintro e w3 ⟨rfl, rfl⟩
 clear HIT
 unfold itemV
 cases h0 : isB tx ⟨#[117, 115, 101]⟩
 rotate_left
 ·rw [if_pos rfl]
  have HX3 : Hid ((useP r) i = X) := by have h := hX0; rw [if_pos h0] at h; exact h
  clear hX0
  have HR3 := HR2
  have HM3 := HM2
  have HS3 := HS2
  clear HR2 HM2 HS2
  go_wp2_with fail
  refine (HHuse.out i w3 HR3.out).mono ?_
  intro e w4 hp
  rcases (RulePost.two (p := useP r) hp) with ⟨k, hx, rfl, hm⟩ | ⟨t, j4, hx, q4, rfl, ht, hr, hm⟩
  ·have HM4 := Lib.hid (HM3.out.trans hm)
   have hX := hx.symm.trans HX3.out
   clear hx hm hp
   subst hX
   unfold stopAt
   go_wp2_with fail
   exact ⟨rfl, rfl, HM4.out⟩
  have HX4 := Lib.hid ((hx.symm.trans HX3.out) : Except.ok (t, j4) = X)
  have HR4 := Lib.hid hr
  have HM4 := Lib.hid (HM3.out.trans hm)
  have HS4 := Lib.hid (HS3.out.mv hm HRB.out)
  have HTt4 : Hid (IsT (fun b => w.heap.size < b) w4 q4 t) := ht.mono (fun b hb => HS3.out.up hb)
  unfold ndC
  clear hp hx ht hr hm HX3 HR3 HM3 HS3
  have HW := Lib.hid (res_world r j4 lv s w w4 q4 t HRB.out HM4.out HS4.out.z HTt4.out HR4.out)
  obtain ⟨d0, d1, d2, d3, f0⟩ := HS4.out.cells
  have hX : Except.ok (t, j4) = X := HX4.out
  clear HX4
  subst hX
  (try unfold ndC)
  go_wp2_with fail
  obtain ⟨hcell, hist, hrd, hmv⟩ := HW.out
  exact bodyPost_ret (results_cellT rfl _ _ _ ⟨w.heap.size, 0, none⟩ _ rfl (load_node _ _ q4 hcell)) rfl ⟨_, _, rfl, hist, hrd, hmv⟩
 cases h1 : isB tx ⟨#[112, 117, 98]⟩
 rotate_left
 ·rw [if_neg (by decide), if_pos rfl]
  have HX3 : Hid ((pubUseP r) i = X) := by have h := hX0; rw [if_neg (by rw [h0]; decide), if_pos h1] at h; exact h
  clear hX0
  have HR3 := HR2
  have HM3 := HM2
  have HS3 := HS2
  clear HR2 HM2 HS2
  go_wp2_with fail
  refine (HHpub.out i w3 HR3.out).mono ?_
  intro e w4 hp
  rcases (RulePost.two (p := pubUseP r) hp) with ⟨k, hx, rfl, hm⟩ | ⟨t, j4, hx, q4, rfl, ht, hr, hm⟩
  ·have HM4 := Lib.hid (HM3.out.trans hm)
   have hX := hx.symm.trans HX3.out
   clear hx hm hp
   subst hX
   unfold stopAt
   go_wp2_with fail
   exact ⟨rfl, rfl, HM4.out⟩
  have HX4 := Lib.hid ((hx.symm.trans HX3.out) : Except.ok (t, j4) = X)
  have HR4 := Lib.hid hr
  have HM4 := Lib.hid (HM3.out.trans hm)
  have HS4 := Lib.hid (HS3.out.mv hm HRB.out)
  have HTt4 : Hid (IsT (fun b => w.heap.size < b) w4 q4 t) := ht.mono (fun b hb => HS3.out.up hb)
  unfold ndC
  clear hp hx ht hr hm HX3 HR3 HM3 HS3
  have HW := Lib.hid (res_world r j4 lv s w w4 q4 t HRB.out HM4.out HS4.out.z HTt4.out HR4.out)
  obtain ⟨d0, d1, d2, d3, f0⟩ := HS4.out.cells
  have hX : Except.ok (t, j4) = X := HX4.out
  clear HX4
  subst hX
  (try unfold ndC)
  go_wp2_with fail
  obtain ⟨hcell, hist, hrd, hmv⟩ := HW.out
  exact bodyPost_ret (results_cellT rfl _ _ _ ⟨w.heap.size, 0, none⟩ _ rfl (load_node _ _ q4 hcell)) rfl ⟨_, _, rfl, hist, hrd, hmv⟩
 cases h2 : isB tx ⟨#[99, 111, 110, 115, 116]⟩
 rotate_left
 ·rw [if_neg (by decide), if_neg (by decide), if_pos rfl]
  have HX3 : Hid ((constantM r T E) i = X) := by have h := hX0; rw [if_neg (by rw [h0]; decide), if_neg (by rw [h1]; decide), if_pos h2] at h; exact h
  clear hX0
  have HR3 := HR2
  have HM3 := HM2
  have HS3 := HS2
  clear HR2 HM2 HS2
  go_wp2_with fail
  refine (HHconst.out i w3 HR3.out).mono ?_
  intro e w4 hp
  rcases (RulePost.two (p := constantM r T E) hp) with ⟨k, hx, rfl, hm⟩ | ⟨t, j4, hx, q4, rfl, ht, hr, hm⟩
  ·have HM4 := Lib.hid (HM3.out.trans hm)
   have hX := hx.symm.trans HX3.out
   clear hx hm hp
   subst hX
   unfold stopAt
   go_wp2_with fail
   exact ⟨rfl, rfl, HM4.out⟩
  have HX4 := Lib.hid ((hx.symm.trans HX3.out) : Except.ok (t, j4) = X)
  have HR4 := Lib.hid hr
  have HM4 := Lib.hid (HM3.out.trans hm)
  have HS4 := Lib.hid (HS3.out.mv hm HRB.out)
  have HTt4 : Hid (IsT (fun b => w.heap.size < b) w4 q4 t) := ht.mono (fun b hb => HS3.out.up hb)
  unfold ndC
  clear hp hx ht hr hm HX3 HR3 HM3 HS3
  have HW := Lib.hid (res_world r j4 lv s w w4 q4 t HRB.out HM4.out HS4.out.z HTt4.out HR4.out)
  obtain ⟨d0, d1, d2, d3, f0⟩ := HS4.out.cells
  have hX : Except.ok (t, j4) = X := HX4.out
  clear HX4
  subst hX
  (try unfold ndC)
  go_wp2_with fail
  obtain ⟨hcell, hist, hrd, hmv⟩ := HW.out
  exact bodyPost_ret (results_cellT rfl _ _ _ ⟨w.heap.size, 0, none⟩ _ rfl (load_node _ _ q4 hcell)) rfl ⟨_, _, rfl, hist, hrd, hmv⟩
 cases h3 : isB tx ⟨#[102, 110]⟩
 rotate_left
 ·rw [if_neg (by decide), if_neg (by decide), if_neg (by decide), if_pos rfl]
  have HX3 : Hid ((functionM r (paramsP r) T Bk) i = X) := by have h := hX0; rw [if_neg (by rw [h0]; decide), if_neg (by rw [h1]; decide), if_neg (by rw [h2]; decide), if_pos h3] at h; exact h
  clear hX0
  have HR3 := HR2
  have HM3 := HM2
  have HS3 := HS2
  clear HR2 HM2 HS2
  go_wp2_with fail
  refine (HHfn.out i w3 HR3.out).mono ?_
  intro e w4 hp
  rcases (RulePost.two (p := functionM r (paramsP r) T Bk) hp) with ⟨k, hx, rfl, hm⟩ | ⟨t, j4, hx, q4, rfl, ht, hr, hm⟩
  ·have HM4 := Lib.hid (HM3.out.trans hm)
   have hX := hx.symm.trans HX3.out
   clear hx hm hp
   subst hX
   unfold stopAt
   go_wp2_with fail
   exact ⟨rfl, rfl, HM4.out⟩
  have HX4 := Lib.hid ((hx.symm.trans HX3.out) : Except.ok (t, j4) = X)
  have HR4 := Lib.hid hr
  have HM4 := Lib.hid (HM3.out.trans hm)
  have HS4 := Lib.hid (HS3.out.mv hm HRB.out)
  have HTt4 : Hid (IsT (fun b => w.heap.size < b) w4 q4 t) := ht.mono (fun b hb => HS3.out.up hb)
  unfold ndC
  clear hp hx ht hr hm HX3 HR3 HM3 HS3
  have HW := Lib.hid (res_world r j4 lv s w w4 q4 t HRB.out HM4.out HS4.out.z HTt4.out HR4.out)
  obtain ⟨d0, d1, d2, d3, f0⟩ := HS4.out.cells
  have hX : Except.ok (t, j4) = X := HX4.out
  clear HX4
  subst hX
  (try unfold ndC)
  go_wp2_with fail
  obtain ⟨hcell, hist, hrd, hmv⟩ := HW.out
  exact bodyPost_ret (results_cellT rfl _ _ _ ⟨w.heap.size, 0, none⟩ _ rfl (load_node _ _ q4 hcell)) rfl ⟨_, _, rfl, hist, hrd, hmv⟩
 cases h4 : isB tx ⟨#[116, 121, 112, 101]⟩
 rotate_left
 ·rw [if_neg (by decide), if_neg (by decide), if_neg (by decide), if_neg (by decide), if_pos rfl]
  have HX3 : Hid ((recordM r T) i = X) := by have h := hX0; rw [if_neg (by rw [h0]; decide), if_neg (by rw [h1]; decide), if_neg (by rw [h2]; decide), if_neg (by rw [h3]; decide), if_pos h4] at h; exact h
  clear hX0
  have HR3 := HR2
  have HM3 := HM2
  have HS3 := HS2
  clear HR2 HM2 HS2
  go_wp2_with fail
  refine (HHtype.out i w3 HR3.out).mono ?_
  intro e w4 hp
  rcases (RulePost.two (p := recordM r T) hp) with ⟨k, hx, rfl, hm⟩ | ⟨t, j4, hx, q4, rfl, ht, hr, hm⟩
  ·have HM4 := Lib.hid (HM3.out.trans hm)
   have hX := hx.symm.trans HX3.out
   clear hx hm hp
   subst hX
   unfold stopAt
   go_wp2_with fail
   exact ⟨rfl, rfl, HM4.out⟩
  have HX4 := Lib.hid ((hx.symm.trans HX3.out) : Except.ok (t, j4) = X)
  have HR4 := Lib.hid hr
  have HM4 := Lib.hid (HM3.out.trans hm)
  have HS4 := Lib.hid (HS3.out.mv hm HRB.out)
  have HTt4 : Hid (IsT (fun b => w.heap.size < b) w4 q4 t) := ht.mono (fun b hb => HS3.out.up hb)
  unfold ndC
  clear hp hx ht hr hm HX3 HR3 HM3 HS3
  have HW := Lib.hid (res_world r j4 lv s w w4 q4 t HRB.out HM4.out HS4.out.z HTt4.out HR4.out)
  obtain ⟨d0, d1, d2, d3, f0⟩ := HS4.out.cells
  have hX : Except.ok (t, j4) = X := HX4.out
  clear HX4
  subst hX
  (try unfold ndC)
  go_wp2_with fail
  obtain ⟨hcell, hist, hrd, hmv⟩ := HW.out
  exact bodyPost_ret (results_cellT rfl _ _ _ ⟨w.heap.size, 0, none⟩ _ rfl (load_node _ _ q4 hcell)) rfl ⟨_, _, rfl, hist, hrd, hmv⟩
 cases h5 : isB tx ⟨#[116, 114, 97, 105, 116]⟩
 rotate_left
 ·rw [if_neg (by decide), if_neg (by decide), if_neg (by decide), if_neg (by decide), if_neg (by decide), if_pos rfl]
  have HX3 : Hid ((traitM r T1) i = X) := by have h := hX0; rw [if_neg (by rw [h0]; decide), if_neg (by rw [h1]; decide), if_neg (by rw [h2]; decide), if_neg (by rw [h3]; decide), if_neg (by rw [h4]; decide), if_pos h5] at h; exact h
  clear hX0
  have HR3 := HR2
  have HM3 := HM2
  have HS3 := HS2
  clear HR2 HM2 HS2
  go_wp2_with fail
  refine (HHtrait.out i w3 HR3.out).mono ?_
  intro e w4 hp
  rcases (RulePost.two (p := traitM r T1) hp) with ⟨k, hx, rfl, hm⟩ | ⟨t, j4, hx, q4, rfl, ht, hr, hm⟩
  ·have HM4 := Lib.hid (HM3.out.trans hm)
   have hX := hx.symm.trans HX3.out
   clear hx hm hp
   subst hX
   unfold stopAt
   go_wp2_with fail
   exact ⟨rfl, rfl, HM4.out⟩
  have HX4 := Lib.hid ((hx.symm.trans HX3.out) : Except.ok (t, j4) = X)
  have HR4 := Lib.hid hr
  have HM4 := Lib.hid (HM3.out.trans hm)
  have HS4 := Lib.hid (HS3.out.mv hm HRB.out)
  have HTt4 : Hid (IsT (fun b => w.heap.size < b) w4 q4 t) := ht.mono (fun b hb => HS3.out.up hb)
  unfold ndC
  clear hp hx ht hr hm HX3 HR3 HM3 HS3
  have HW := Lib.hid (res_world r j4 lv true w w4 q4 t HRB.out HM4.out HS4.out.z HTt4.out HR4.out)
  obtain ⟨d0, d1, d2, d3, f0⟩ := HS4.out.cells
  have hX : Except.ok (t, j4) = X := HX4.out
  clear HX4
  subst hX
  (try unfold ndC)
  go_wp2_with fail
  obtain ⟨hcell, hist, hrd, hmv⟩ := HW.out
  exact bodyPost_ret (results_cellT rfl _ _ _ ⟨w.heap.size, 0, none⟩ _ rfl (load_node _ _ q4 hcell)) rfl ⟨_, _, rfl, hist, hrd, hmv⟩
 cases h6 : isB tx ⟨#[105, 109, 112, 108]⟩
 rotate_left
 ·rw [if_neg (by decide), if_neg (by decide), if_neg (by decide), if_neg (by decide), if_neg (by decide), if_neg (by decide), if_pos rfl]
  have HX3 : Hid ((implM r T Bk) i = X) := by have h := hX0; rw [if_neg (by rw [h0]; decide), if_neg (by rw [h1]; decide), if_neg (by rw [h2]; decide), if_neg (by rw [h3]; decide), if_neg (by rw [h4]; decide), if_neg (by rw [h5]; decide), if_pos h6] at h; exact h
  clear hX0
  have HR3 := HR2
  have HM3 := HM2
  have HS3 := HS2
  clear HR2 HM2 HS2
  go_wp2_with fail
  refine (HHimpl.out i w3 HR3.out).mono ?_
  intro e w4 hp
  rcases (RulePost.two (p := implM r T Bk) hp) with ⟨k, hx, rfl, hm⟩ | ⟨t, j4, hx, q4, rfl, ht, hr, hm⟩
  ·have HM4 := Lib.hid (HM3.out.trans hm)
   have hX := hx.symm.trans HX3.out
   clear hx hm hp
   subst hX
   unfold stopAt
   go_wp2_with fail
   exact ⟨rfl, rfl, HM4.out⟩
  have HX4 := Lib.hid ((hx.symm.trans HX3.out) : Except.ok (t, j4) = X)
  have HR4 := Lib.hid hr
  have HM4 := Lib.hid (HM3.out.trans hm)
  have HS4 := Lib.hid (HS3.out.mv hm HRB.out)
  have HTt4 : Hid (IsT (fun b => w.heap.size < b) w4 q4 t) := ht.mono (fun b hb => HS3.out.up hb)
  unfold ndC
  clear hp hx ht hr hm HX3 HR3 HM3 HS3
  have HW := Lib.hid (res_world r j4 lv s w w4 q4 t HRB.out HM4.out HS4.out.z HTt4.out HR4.out)
  obtain ⟨d0, d1, d2, d3, f0⟩ := HS4.out.cells
  have hX : Except.ok (t, j4) = X := HX4.out
  clear HX4
  subst hX
  (try unfold ndC)
  go_wp2_with fail
  obtain ⟨hcell, hist, hrd, hmv⟩ := HW.out
  exact bodyPost_ret (results_cellT rfl _ _ _ ⟨w.heap.size, 0, none⟩ _ rfl (load_node _ _ q4 hcell)) rfl ⟨_, _, rfl, hist, hrd, hmv⟩
 cases h7 : isB tx ⟨#[109, 97, 99, 114, 111]⟩
 rotate_left
 ·rw [if_neg (by decide), if_neg (by decide), if_neg (by decide), if_neg (by decide), if_neg (by decide), if_neg (by decide), if_neg (by decide), if_pos rfl]
  have HX3 : Hid ((macroM r E) i = X) := by have h := hX0; rw [if_neg (by rw [h0]; decide), if_neg (by rw [h1]; decide), if_neg (by rw [h2]; decide), if_neg (by rw [h3]; decide), if_neg (by rw [h4]; decide), if_neg (by rw [h5]; decide), if_neg (by rw [h6]; decide), if_pos h7] at h; exact h
  clear hX0
  have HR3 := HR2
  have HM3 := HM2
  have HS3 := HS2
  clear HR2 HM2 HS2
  go_wp2_with fail
  refine (HHmacro.out i w3 HR3.out).mono ?_
  intro e w4 hp
  rcases (RulePost.two (p := macroM r E) hp) with ⟨k, hx, rfl, hm⟩ | ⟨t, j4, hx, q4, rfl, ht, hr, hm⟩
  ·have HM4 := Lib.hid (HM3.out.trans hm)
   have hX := hx.symm.trans HX3.out
   clear hx hm hp
   subst hX
   unfold stopAt
   go_wp2_with fail
   exact ⟨rfl, rfl, HM4.out⟩
  have HX4 := Lib.hid ((hx.symm.trans HX3.out) : Except.ok (t, j4) = X)
  have HR4 := Lib.hid hr
  have HM4 := Lib.hid (HM3.out.trans hm)
  have HS4 := Lib.hid (HS3.out.mv hm HRB.out)
  have HTt4 : Hid (IsT (fun b => w.heap.size < b) w4 q4 t) := ht.mono (fun b hb => HS3.out.up hb)
  unfold ndC
  clear hp hx ht hr hm HX3 HR3 HM3 HS3
  have HW := Lib.hid (res_world r j4 lv s w w4 q4 t HRB.out HM4.out HS4.out.z HTt4.out HR4.out)
  obtain ⟨d0, d1, d2, d3, f0⟩ := HS4.out.cells
  have hX : Except.ok (t, j4) = X := HX4.out
  clear HX4
  subst hX
  (try unfold ndC)
  go_wp2_with fail
  obtain ⟨hcell, hist, hrd, hmv⟩ := HW.out
  exact bodyPost_ret (results_cellT rfl _ _ _ ⟨w.heap.size, 0, none⟩ _ rfl (load_node _ _ q4 hcell)) rfl ⟨_, _, rfl, hist, hrd, hmv⟩
 ·rw [if_neg (by decide), if_neg (by decide), if_neg (by decide), if_neg (by decide), if_neg (by decide), if_neg (by decide), if_neg (by decide), if_neg (by decide)]
  have HX3 : Hid ((failM : PM Tree) i = X) := by have h := hX0; rw [if_neg (by rw [h0]; decide), if_neg (by rw [h1]; decide), if_neg (by rw [h2]; decide), if_neg (by rw [h3]; decide), if_neg (by rw [h4]; decide), if_neg (by rw [h5]; decide), if_neg (by rw [h6]; decide), if_neg (by rw [h7]; decide)] at h; exact h
  clear hX0
  go_wp2_with fail
  refine (fail_x r i lv s w3 HR2.out).mono ?_
  rintro e w4 ⟨k, hx, rfl, hm⟩
  have HM4 := Lib.hid (HM2.out.trans hm)
  have hX := hx.symm.trans HX3.out
  clear hx hm HX3
  subst hX
  unfold stopAt
  go_wp2_with fail
  exact ⟨rfl, rfl, HM4.out⟩
end Go.Proofs.YtheigpiffdabnaaGreat
namespace Go.Proofs.YtheigpiffdabnaaGreat
open Go Go.RowKit
theorem assert_stop (k : Int) (w : World) : (Instr.typeAssert (.iface 70 (.int .i64 k)) 20 70 true).run Tryz.prog w = .ok (.tuple #[.int .i64 k, .bool true]) w := by kernel_rfl
theorem assert_none (w : World) : (Instr.typeAssert .nilIface 20 70 true).run Tryz.prog w = .ok (.tuple #[.int .i64 0, .bool false]) w := by kernel_rfl
set_option maxRecDepth 100000 in
theorem read1_panicking (p : Addr) (x k : Int) (older : List PanicEntry) (w : World) (hc : w.cell? p = some (.int .i64 x)) (hz : w.frozen? p = false) :
  CallsD Tryz.prog 28 #[.pointer (some p)] (.panicking ({ v := .iface 70 (.int .i64 k), recovered := false } :: older)) w fun e u' w' =>
   e = .returned (.tuple #[]) ∧ u' = .panicking ({ v := .iface 70 (.int .i64 k), recovered := true } :: older) ∧ w' = w.setCell p (.int .i64 k) := by
 refine callsD_of_wpS Tryz.func28 rfl fun c₀ cs hu => ?_
 apply wpS_seq
 apply wpS_region
 simp [wpOpsS, go_sem, recoverD, hu, Tryz.ntmps28, Exit.thenS, assert_stop]
 apply wpS_seq
 apply wpS_region
 simp [wpOpsS, go_sem, Exit.thenS]
 refine wpS_cond (t := true) (by simp [Act.eval, Array.replicate]) ?_
 simp only [if_true]
 apply wpS_region
 simp [wpOpsS, go_sem, hc, hz, bodyPostS, results, Tryz.results28]
set_option maxRecDepth 100000 in
theorem read1_idle (p : Addr) (w : World) :
  CallsD Tryz.prog 28 #[.pointer (some p)] .returning w fun e u' w' => e = .returned (.tuple #[]) ∧ u' = .returning ∧ w' = w := by
 refine callsD_of_wpS Tryz.func28 rfl fun c₀ cs hu => ?_
 apply wpS_seq
 apply wpS_region
 simp [wpOpsS, go_sem, recoverD, hu, Tryz.ntmps28, Exit.thenS, assert_none]
 apply wpS_seq
 apply wpS_region
 simp [wpOpsS, go_sem, Exit.thenS]
 refine wpS_cond (t := false) (by simp [Act.eval, Array.replicate]) ?_
 simp only [Bool.false_eq_true, if_false]
 refine wpS_of_wp (wp_skip ?_)
 cases c₀
 simp_all [bodyPostS, results, Tryz.results28]
theorem load_int (W : World) (b : Nat) (k : Int) (h : W.cell? ⟨b, 0, none⟩ = some (.int .i64 k)) : (loadVar 3 ⟨b, 0, none⟩).run Tryz.prog W = .ok (.int .i64 k) W := by
 go_simp
theorem results_read {tmps : Array Value} {w : World} {a0 a1 : Addr} {v0 v1 v2 : Value} (h0 : tmps.getD 6 undef = .pointer (some a0)) (h1 : tmps.getD 7 undef = .pointer (some a1)) (h2 : tmps.getD 8 undef = v2)
  (l0 : (loadVar 37 a0).run Tryz.prog w = .ok v0 w) (l1 : (loadVar 3 a1).run Tryz.prog w = .ok v1 w) : (results Tryz.f19 tmps).run Tryz.prog w = .ok (.tuple #[v0, v1, v2]) w := by
 have e0 : tmps[6]?.getD undef = .pointer (some a0) := by simpa using h0
 have e1 : tmps[7]?.getD undef = .pointer (some a1) := by simpa using h1
 have e2 : tmps[8]?.getD undef = v2 := by simpa using h2
 simp [results, Tryz.results19, e0, e1, e2, asAddr, l0, l1]
/-- what a reading of a node leaves -/
def ReadPost (r : Rdr) (x : Except Nat (Tree × Nat)) (w : World) (e : Ending) (w' : World) : Prop :=
 match x with
 | .ok (t, j) => ∃ q : Raw, e = .returned (.tuple #[.agg (ndC q), .int .i64 (j : Int), .bool true]) ∧ IsT (fun b => w.heap.size ≤ b) w' q t ∧ j < r.L.length ∧ Below w.heap.size w w'
 | .error k => e = .returned (.tuple #[.agg (ndC ⟨0, ⟨#[]⟩, 0, none, 0, 0⟩), .int .i64 (k : Int), .bool false]) ∧ Below w.heap.size w w'
/-- what stands behind the rule -/
structure InvD (r : Rdr) (w : World) (q : Raw) (t : Tree) (i j : Nat) (s : Bool) (x : World) : Prop where
 z : x.heap[w.heap.size]? = some (.cells (ndC q) 37 (0, 0))
 n : x.heap[w.heap.size + 1]? = some (.cells #[.int .i64 (i : Int)] 3 (0, 0))
 rd : RdAt r j 0 s x
 be : Below w.heap.size w x
 tr : IsT (fun b => w.heap.size + 2 < b) x q t
 rb : r.b = w.heap.size + 1 + 1
 away : ∀ b o, r.p = some ⟨b, o, none⟩ → b < w.heap.size
theorem InvD.set {r : Rdr} {w : World} {q q' : Raw} {t t' : Tree} {i j : Nat} {s : Bool} {x : World} (h : InvD r w q t i j s x) (ht : IsT (fun b => w.heap.size + 2 < b) x q' t') :
  InvD r w q' t' i j s ((((x.setCell ⟨w.heap.size, 0, none⟩ (.int .i64 q'.kind)).setCell ⟨w.heap.size, 1, none⟩ (.string q'.text)).setCell ⟨w.heap.size, 2, none⟩ (.int .i64 q'.at_)).setCell ⟨w.heap.size, 3, none⟩ (.slice q'.p q'.n q'.cap)) := by
 have hrb := h.rb
 have key : ∀ (W : World) (k : Nat) (v : Value), But (fun a => a.block = w.heap.size) W (W.setCell ⟨w.heap.size, k, none⟩ v) := fun W k v => But.setCell W _ v rfl
 have bb := (((key x 0 (.int .i64 q'.kind)).trans (key _ 1 (.string q'.text))).trans (key _ 2 (.int .i64 q'.at_))).trans (key _ 3 (.slice q'.p q'.n q'.cap))
 refine ⟨heap_setCell_same _ _ _ _ _ _ (heap_setCell_same _ _ _ _ _ _ (heap_setCell_same _ _ _ _ _ _ (heap_setCell_same _ _ _ _ _ _ h.z))), ?_, ⟨?_, SlIs.but h.rd.toks bb (fun b o i e q => ?_), h.rd.away, h.rd.lt, h.rd.few, h.rd.deep⟩, Below.setCell (Below.setCell (Below.setCell (Below.setCell h.be (Nat.le_refl _) _) (Nat.le_refl _) _) (Nat.le_refl _) _) (Nat.le_refl _) _, ht.but bb (fun a e q => by rw [e] at q; omega), hrb, h.away⟩
 ·rw [But.block bb _ (lt_heap h.n) (fun a ha e => by rw [ha] at e; omega)]
  exact h.n
 ·rw [But.block bb r.b (lt_heap h.rd.cells) (fun a ha e => by rw [ha] at e; omega)]
  exact h.rd.cells
 ·have h1 := h.away b o e
  have h2 : b = w.heap.size := q
  omega
theorem InvD.cells {r : Rdr} {w : World} {q : Raw} {t : Tree} {i j : Nat} {s : Bool} {x : World} (h : InvD r w q t i j s x) : x.cell? ⟨w.heap.size, 0, none⟩ = some (.int .i64 q.kind) ∧ x.cell? ⟨w.heap.size, 1, none⟩ = some (.string q.text) ∧ x.cell? ⟨w.heap.size, 2, none⟩ = some (.int .i64 q.at_) ∧ x.cell? ⟨w.heap.size, 3, none⟩ = some (.slice q.p q.n q.cap) ∧ (∀ k, x.frozen? ⟨w.heap.size, k, none⟩ = false) ∧ x.cell? ⟨w.heap.size + 1, 0, none⟩ = some (.int .i64 (i : Int)) ∧ ∀ k, x.frozen? ⟨w.heap.size + 1, k, none⟩ = false :=
 ⟨by rw [Lib.cell_of_heap h.z]; rfl, by rw [Lib.cell_of_heap h.z]; rfl, by rw [Lib.cell_of_heap h.z]; rfl, by rw [Lib.cell_of_heap h.z]; rfl, fun k => Lib.frozen_of_heap h.z k, by rw [Lib.cell_of_heap h.n]; rfl, fun k => Lib.frozen_of_heap h.n k⟩
set_option maxRecDepth 100000 in
set_option maxHeartbeats 1000000 in
theorem read_any (p : Option Addr) (cap i : Nat) (L : List Lx.Tok) (F : FuncId) (x : Except Nat (Tree × Nat)) (w : World) (hL : SlIs tokEnc w (.slice p L.length cap) L) (hp : ∀ b o, p = some ⟨b, o, none⟩ → b < w.heap.size) (hi : i < L.length) (hfew : L.length ≤ 20001)
  (hF : ∀ args w, (callFunc F args).run Tryz.prog w = .ok (.enter F args) w)
  (HP : ∀ w1, RdAt ⟨w.heap.size + 1 + 1, p, cap, L⟩ i 0 false w1 → Calls Tryz.prog F #[.pointer (some ⟨w.heap.size + 1 + 1, 0, none⟩)] w1 (ItemPost ⟨w.heap.size + 1 + 1, p, cap, L⟩ x 0 w1)) :
  Calls Tryz.prog 19 #[.slice p L.length cap, .int .i64 (i : Int), .func (.func F) #[] #[]] w (ReadPost ⟨w.heap.size + 1 + 1, p, cap, L⟩ x w) := by
 have hmf : ∀ (fn : Fn) (first cap : Array Value) (w : World), (Instr.makeFunc fn first cap).run Tryz.prog w = .ok (.func fn first cap) w := fun _ _ _ _ => rfl
 have HR3 : Hid (RdAt ⟨w.heap.size + 1 + 1, p, cap, L⟩ i 0 false (((w.alloc (.cells #[.int .i64 0, .string ⟨#[]⟩, .int .i64 0, .slice none 0 0] 37)).alloc (.cells #[.int .i64 (i : Int)] 3)).alloc (.cells #[.slice p L.length cap, .int .i64 (i : Int), .int .i64 0, .bool false] 69))) := ⟨new_at _ (by simp), hL.below (bnext (boxB w _) (bnext (boxB _ _) (boxB _ _))), fun b o e => by have := hp b o e; show b < w.heap.size + 1 + 1; omega, hi, hfew, by omega⟩
 have HB3 : Hid (Below w.heap.size w (((w.alloc (.cells #[.int .i64 0, .string ⟨#[]⟩, .int .i64 0, .slice none 0 0] 37)).alloc (.cells #[.int .i64 (i : Int)] 3)).alloc (.cells #[.slice p L.length cap, .int .i64 (i : Int), .int .i64 0, .bool false] 69))) := bnext (boxB w _) (bnext (boxB _ _) (boxB _ _))
 have HZ3 : Hid ((((w.alloc (.cells #[.int .i64 0, .string ⟨#[]⟩, .int .i64 0, .slice none 0 0] 37)).alloc (.cells #[.int .i64 (i : Int)] 3)).alloc (.cells #[.slice p L.length cap, .int .i64 (i : Int), .int .i64 0, .bool false] 69)).heap[w.heap.size]? = some (.cells (ndC ⟨0, ⟨#[]⟩, 0, none, 0, 0⟩) 37 (0, 0))) := (Below.heap_alloc _ _ _ (by simp; omega)).trans ((Below.heap_alloc _ _ _ (by simp)).trans (new_at _ rfl))
 have HN3 : Hid ((((w.alloc (.cells #[.int .i64 0, .string ⟨#[]⟩, .int .i64 0, .slice none 0 0] 37)).alloc (.cells #[.int .i64 (i : Int)] 3)).alloc (.cells #[.slice p L.length cap, .int .i64 (i : Int), .int .i64 0, .bool false] 69)).heap[w.heap.size + 1]? = some (.cells #[.int .i64 (i : Int)] 3 (0, 0))) := (Below.heap_alloc _ _ _ (by simp)).trans (new_at _ (by simp))
 have HS3 : Hid ((((w.alloc (.cells #[.int .i64 0, .string ⟨#[]⟩, .int .i64 0, .slice none 0 0] 37)).alloc (.cells #[.int .i64 (i : Int)] 3)).alloc (.cells #[.slice p L.length cap, .int .i64 (i : Int), .int .i64 0, .bool false] 69)).heap.size = w.heap.size + 3) := by show _ = _; simp
 have HPP := Lib.hid HP
 have HAW := Lib.hid hp
 clear hL HP hp
 go_enter_defers Tryz.func19, Tryz.ntmps19
 go_wp2_with fail
 generalize ((w.alloc (.cells #[.int .i64 0, .string ⟨#[]⟩, .int .i64 0, .slice none 0 0] 37)).alloc (.cells #[.int .i64 (i : Int)] 3)).alloc (.cells #[.slice p L.length cap, .int .i64 (i : Int), .int .i64 0, .bool false] 69) = w3 at *
 refine (HPP.out w3 HR3.out).mono ?_
 intro e w4 hp
 match x, hp with
 | .error k, hp =>
  obtain ⟨rfl, hm⟩ := hp
  have hz4 : w4.heap[w.heap.size]? = some (.cells (ndC ⟨0, ⟨#[]⟩, 0, none, 0, 0⟩) 37 (0, 0)) := by rw [Mv.block hm (lt_heap HZ3.out) (by show _ ≠ w.heap.size + 1 + 1; omega)]; exact HZ3.out
  have hn4 : w4.heap[w.heap.size + 1]? = some (.cells #[.int .i64 (i : Int)] 3 (0, 0)) := by rw [Mv.block hm (lt_heap HN3.out) (by show _ ≠ w.heap.size + 1 + 1; omega)]; exact HN3.out
  have hb4 : Below w.heap.size w w4 := HB3.out.trans (But.below hm (by have := HS3.out; omega) (fun a q => by have q' : a.block = w.heap.size + 1 + 1 := q; omega))
  have HZ4 := Lib.hid hz4
  have HN4 := Lib.hid hn4
  have HB4 := Lib.hid hb4
  clear hm hz4 hn4 hb4 hp
  unfold stopAt
  go_wp2_with fail
  refine leaves_cons (f := 28) (args := #[.pointer (some ⟨w.heap.size + 1, 0, none⟩)]) (by simp) (by simp [go_sem]) ?_
  refine (read1_panicking ⟨w.heap.size + 1, 0, none⟩ (i : Int) (k : Int) [] w4 (by rw [Lib.cell_of_heap HN4.out]; rfl) (Lib.frozen_of_heap HN4.out 0)).mono ?_
  rintro e u' w5 ⟨rfl, rfl, rfl⟩
  have hz5 : (w4.setCell ⟨w.heap.size + 1, 0, none⟩ (.int .i64 (k : Int))).heap[w.heap.size]? = some (.cells (ndC ⟨0, ⟨#[]⟩, 0, none, 0, 0⟩) 37 (0, 0)) := (Below.heap_setCell _ _ _ _ (by show w.heap.size ≠ w.heap.size + 1; omega)).trans HZ4.out
  have hn5 : (w4.setCell ⟨w.heap.size + 1, 0, none⟩ (.int .i64 (k : Int))).cell? ⟨w.heap.size + 1, 0, none⟩ = some (.int .i64 (k : Int)) := World.cell?_setCell_same _ _ _ (by rw [Lib.cell_of_heap HN4.out]; rfl)
  exact ⟨_, results_read rfl rfl rfl (load_node _ _ ⟨0, ⟨#[]⟩, 0, none, 0, 0⟩ hz5) (load_int _ _ _ hn5), rfl, Below.setCell HB4.out (by show w.heap.size ≤ w.heap.size + 1; omega) _⟩
 | .ok (t, j), hp =>
  obtain ⟨q, s, rfl, ht, hr, hm⟩ := hp
  have hz4 : w4.heap[w.heap.size]? = some (.cells (ndC ⟨0, ⟨#[]⟩, 0, none, 0, 0⟩) 37 (0, 0)) := by rw [Mv.block hm (lt_heap HZ3.out) (by show _ ≠ w.heap.size + 1 + 1; omega)]; exact HZ3.out
  have hn4 : w4.heap[w.heap.size + 1]? = some (.cells #[.int .i64 (i : Int)] 3 (0, 0)) := by rw [Mv.block hm (lt_heap HN3.out) (by show _ ≠ w.heap.size + 1 + 1; omega)]; exact HN3.out
  have hb4 : Below w.heap.size w w4 := HB3.out.trans (But.below hm (by have := HS3.out; omega) (fun a q => by have q' : a.block = w.heap.size + 1 + 1 := q; omega))
  have ht4 : IsT (fun b => w.heap.size + 2 < b) w4 q t := ht.mono (fun b hb => by have := HS3.out; omega)
  have HI4 : Hid (InvD ⟨w.heap.size + 1 + 1, p, cap, L⟩ w ⟨0, ⟨#[]⟩, 0, none, 0, 0⟩ (.mk 0 ⟨#[]⟩ 0 []) i j s w4) := ⟨hz4, hn4, hr, hb4, IsT.leaf _ _ _ _ _, rfl, HAW.out⟩
  have HI5 := Lib.hid (HI4.out.set ht4)
  obtain ⟨d0, d1, d2, d3, f0, n0, g0⟩ := HI4.out.cells
  clear hz4 hn4 hb4 ht hr hm hp
  unfold ndC
  go_wp2_with fail
  generalize (((w4.setCell ⟨w.heap.size, 0, none⟩ (.int .i64 q.kind)).setCell ⟨w.heap.size, 1, none⟩ (.string q.text)).setCell ⟨w.heap.size, 2, none⟩ (.int .i64 q.at_)).setCell ⟨w.heap.size, 3, none⟩ (.slice q.p q.n q.cap) = w5 at *
  clear d0 d1 d2 d3 f0 n0 g0 HI4
  apply wp_region_one 5 6 (fun x y => x = y) (fun x y => InvD ⟨w.heap.size + 1 + 1, p, cap, L⟩ w q t i j s x → InvD ⟨w.heap.size + 1 + 1, p, cap, L⟩ w q t i j s y) (fun x => InvD ⟨w.heap.size + 1 + 1, p, cap, L⟩ w q t i j s x) (fun x => True) (fun e x => False)
  case hIA => (rintro x y rfl h; exact h)
  case hIC => (intro x y hl h; exact hl h)
  case hPA => (intro x y hl h; trivial)
  case hP => (intro k a' W h; exact h.elim)
  case hm => kernel_rfl
  case hB => kernel_rfl
  case h0 => exact ⟨HI5.out.z, HI5.out.n, HI5.out.rd.below (Below.drew (Below.refl _ _)), Below.drew HI5.out.be, HI5.out.tr.later (Below.drew (Below.refl _ _)), HI5.out.rb, HI5.out.away⟩
  case h1 => trivial
  simp only [List.take_succ_cons, List.take_zero, List.drop_succ_cons, List.drop_zero]
  apply wpOne_cons (t := tvIs (.agg #[.int .i64 q.kind, .string q.text, .int .i64 q.at_, .slice q.p q.n q.cap])) (tvIs_good _ _)
  case h1 =>
   intro W hI hl
   obtain ⟨d0, d1, d2, d3, f0, n0, g0⟩ := hI.cells
   unfold oneAt
   go_simp
   exact one_is (by decide)
  intro _
  rw [tvIs_f]
  go_simp
  apply wpOne_cons (t := tvIs (.pointer (some ⟨w.heap.size + 1 + 1, 0, none⟩))) (tvIs_good _ _)
  case h1 =>
   intro W hI hl
   unfold oneAt
   go_simp
   exact one_is (by decide)
  intro _
  rw [tvIs_f]
  go_simp
  apply wpOne_cons (t := tvIs (.pointer (some ⟨w.heap.size + 1 + 1, 0, none⟩))) (tvIs_good _ _)
  case h1 =>
   intro W hI hl
   unfold oneAt
   go_simp
   exact one_is (by decide)
  intro _
  rw [tvIs_f]
  go_simp
  apply wpOne_cons (t := tvIs (.pointer (some ⟨w.heap.size + 1 + 1, 1, none⟩))) (tvIs_good _ _)
  case h1 =>
   intro W hI hl
   unfold oneAt
   go_simp
   exact one_is (by decide)
  intro _
  rw [tvIs_f]
  go_simp
  apply wpOne_cons (t := tvIs (.int .i64 (j : Int))) (tvIs_good _ _)
  case h1 =>
   intro W hI hl
   obtain ⟨c0, c1, c2, c3, fz⟩ := hI.rd.c
   simp only at c1
   unfold oneAt
   go_simp
   exact one_is (by decide)
  intro _
  rw [tvIs_f]
  go_simp
  apply wpOne_cons (t := tvIs undef) (tvIs_good _ _)
  case h1 =>
   intro W hI hl
   obtain ⟨d0, d1, d2, d3, f0, n0, g0⟩ := hI.cells
   have HII := Lib.hid (hI.set hI.tr)
   unfold oneAt
   go_simp
   refine ⟨?_, (), rfl, trivial⟩
   unfold sel
   rw [if_pos rfl]
   intro _
   exact HII.out
  intro _
  rw [tvIs_f]
  go_simp
  apply wpOne_nil (Ts := [])
  intro w6 hI hFa
  obtain ⟨d0, d1, d2, d3, f0, n0, g0⟩ := hI.cells
  have HI6 := Lib.hid hI
  clear hI hFa
  go_wp2_with fail
  have hz7 : (w6.setCell ⟨w.heap.size + 1, 0, none⟩ (.int .i64 (j : Int))).heap[w.heap.size]? = some (.cells (ndC q) 37 (0, 0)) := (Below.heap_setCell _ _ _ _ (by show w.heap.size ≠ w.heap.size + 1; omega)).trans HI6.out.z
  have hn7 : (w6.setCell ⟨w.heap.size + 1, 0, none⟩ (.int .i64 (j : Int))).cell? ⟨w.heap.size + 1, 0, none⟩ = some (.int .i64 (j : Int)) := World.cell?_setCell_same _ _ _ n0
  have hb7 : Below w.heap.size w (w6.setCell ⟨w.heap.size + 1, 0, none⟩ (.int .i64 (j : Int))) := Below.setCell HI6.out.be (by show w.heap.size ≤ w.heap.size + 1; omega) _
  have ht7 : IsT (fun b => w.heap.size ≤ b) (w6.setCell ⟨w.heap.size + 1, 0, none⟩ (.int .i64 (j : Int))) q t := (HI6.out.tr.but (M := fun a => a.block = w.heap.size + 1) (But.setCell w6 _ _ rfl) (fun a e q => by rw [e] at q; omega)).mono (fun b hb => by omega)
  refine leaves_cons (f := 28) (args := #[.pointer (some ⟨w.heap.size + 1, 0, none⟩)]) (by simp) (by simp [go_sem]) ?_
  refine (read1_idle ⟨w.heap.size + 1, 0, none⟩ _).mono ?_
  rintro e u' w8 ⟨rfl, rfl, rfl⟩
  exact ⟨_, results_read rfl rfl rfl (load_node _ _ q hz7) (load_int _ _ _ hn7), q, rfl, ht7, HI6.out.rd.lt, hb7⟩
end Go.Proofs.YtheigpiffdabnaaGreat
