/-
  PLAIN: what the parser reads, as an instance of what is known of texts that are made.
-/
import Derived.Test.YtheigpiffdabnaaGreatZG4
import Derived.Test.YtheigpiffdabnaaGreatZB0
set_option linter.unusedSectionVars false
set_option linter.unusedSimpArgs false
set_option linter.unusedVariables false
namespace Go.Proofs.YtheigpiffdabnaaGreat
open Go Go.RowKit
namespace Gr
open Lx
theorem cat (s t : ByteArray) : (s ++ t).data.toList = s.data.toList ++ t.data.toList := by rw [ByteArray.data_append, Array.toList_append]
theorem Chn.app {Q : List KT → Prop} {V : List ByteArray} {T : List KT} {k : Int} {sg : ByteArray} {U : List KT} (h : Chn Q V T) (hs : sg ∈ V) (hU : Chn Q V U) : Chn Q V (T ++ (k, sg) :: U) := by
 induction h with
 | one h => exact .cons h hs hU
 | cons h hs' hU' ih => rw [List.append_assoc, List.cons_append]; exact .cons h hs' ih
/-- a product before a sum -/
theorem Chn.front {Q : List KT → Prop} {V W : List ByteArray} {T : List KT} {k : Int} {sg : ByteArray} {U : List KT} (h : Chn Q W T) (hs : sg ∈ W) (hU : Chn (Chn Q W) V U) : Chn (Chn Q W) V (T ++ (k, sg) :: U) := by
 cases hU with
 | one hU => exact .one (h.app hs hU)
 | @cons T' k' sg' U' hT hs' hU' =>
  have := Chn.cons (k := k') (h.app (k := k) hs hT) hs' hU'
  rwa [List.append_assoc, List.cons_append] at this
theorem Chn.app2 {Q : List KT → Prop} {V W : List ByteArray} {T : List KT} {k : Int} {sg : ByteArray} {U : List KT} (h : Chn (Chn Q W) V T) (hs : sg ∈ W) (hU : Chn (Chn Q W) V U) : Chn (Chn Q W) V (T ++ (k, sg) :: U) := by
 induction h with
 | one h => exact h.front hs hU
 | cons h hs' hU' ih => rw [List.append_assoc, List.cons_append]; exact .cons h hs' ih
theorem str_op {n : Nat} {s t o : Bs} {g : ByteArray} (hg : g ∈ Vmul ++ Vadd) (ho : lexC 5 o = some ([(4, g)], true)) {x : UInt8} {l : Bs} (e : o = x :: l) (hx : runB x = false) (h : Str SumL n s) (ht : Str SumL n t) : Str SumL n (s ++ (o ++ t)) := by
 obtain ⟨T, h1, h2, c, m, rfl, h3, h4⟩ := h
 obtain ⟨U, k1, k2, -⟩ := ht
 refine ⟨T ++ ([(4, g)] ++ U), Lxs.hole h1 (Lxs.lit 5 ho k1) (by rw [e]; rfl) hx, fun d hd => ?_, c, _, rfl, h3, h4⟩
 rcases List.mem_append.1 hg with hg | hg
 ·exact Chn.app2 (h2 d hd) hg (k2 d hd)
 ·exact Chn.app (h2 d hd) hg (k2 d hd)
def gN (s : ByteArray) : Prop := NameS s.data.toList
def gA (s : ByteArray) : Prop := Str UnL 0 s.data.toList
def gS (n : Nat) (s : ByteArray) : Prop := Str SumL n s.data.toList
def gE (n : Nat) (s : ByteArray) : Prop := Str ExL n s.data.toList
def gP (n : Nat) (s : ByteArray) : Prop := ∃ b : Bs, s.data.toList = [123, 32] ++ b ∧ ∀ t, BodyS (n + 1) t → BodyS (n + 1) (b ++ t)
def gK (n : Nat) (s : ByteArray) : Prop := ∃ b : Bs, s.data.toList = [123, 32] ++ b ∧ BodyS n b
def gT (s : ByteArray) : Prop := TextS s.data.toList
theorem dg_dig {d : ByteArray} (h : IsDg d) : ∀ x ∈ d.data.toList, digB x = true := fun x hx => by
 have := h.all x hx
 unfold digB digI
 simp only [Bool.and_eq_true, decide_eq_true_eq]
 omega
theorem dg_ne {d : ByteArray} (h : IsDg d) : ∃ y l, d.data.toList = y :: l ∧ digB y = true := by
 cases e : d.data.toList with
 | nil => exact absurd h.pos (by have : d.size = d.data.toList.length := rfl; rw [this, e]; decide)
 | cons y l => exact ⟨y, l, rfl, dg_dig h y (by rw [e]; exact List.mem_cons_self)⟩
theorem dig_run {x : UInt8} (h : digB x = true) : runB x = true := by unfold digB at h; unfold runB runI; rw [h, Bool.or_true]
theorem n_dig {c : UInt8} {m d : ByteArray} (hc : digB c = false) (hr : runB c = true) (hm : ∀ x ∈ m.data.toList, runB x = true) (hd : IsDg d) : NameS (c :: (m.data.toList ++ d.data.toList)) := by
 obtain ⟨y, l, e, hy⟩ := dg_ne hd
 refine name_num hc (fun x hx => ?_) (y := y) (by rw [e]; simp) hy
 rcases List.mem_cons.1 hx with rfl | hx
 ·exact hr
 ·rcases List.mem_append.1 hx with hx | hx
  ·exact hm x hx
  ·exact dig_run (dg_dig hd x hx)
theorem lt_run {m : ByteArray} (h : IsLt m) : ∀ x ∈ m.data.toList, runB x = true := by
 rcases h with rfl | rfl | rfl <;> (intro x hx; simp at hx; subst hx; decide)
theorem op_lex {t : ByteArray} (h : IsOp t) : ∃ g, g ∈ Vmul ++ Vadd ∧ lexC 5 ([32] ++ (t.data.toList ++ [32])) = some ([(4, g)], true) := by
 rcases h with rfl | rfl | rfl | rfl | rfl
 ·exact ⟨⟨#[43]⟩, isin (by decide), rfl⟩
 ·exact ⟨⟨#[45]⟩, isin (by decide), rfl⟩
 ·exact ⟨⟨#[42]⟩, isin (by decide), rfl⟩
 ·exact ⟨⟨#[47]⟩, isin (by decide), rfl⟩
 ·exact ⟨⟨#[37]⟩, isin (by decide), rfl⟩
theorem g_op {n : Nat} {s t u : ByteArray} (hs : gS n s) (ht : IsOp t) (hu : gS n u) : Str SumL n (s.data.toList ++ ([32] ++ (t.data.toList ++ ([32] ++ u.data.toList)))) := by
 obtain ⟨g, hg, ho⟩ := op_lex ht
 have := str_op hg ho rfl rfl hs hu
 simpa using this
theorem Str.ex {n : Nat} {s : Bs} (h : Str SumL n s) : Str ExL n s := by
 obtain ⟨T, h1, h2, h3⟩ := h
 exact ⟨T, h1, fun d hd => (h2 d hd).ex, h3⟩
theorem s_one : Str SumL 0 [49] := (str_num (num_digits (by simp) (by decide) (by decide))).sum
theorem s_zero : Str SumL 0 [48] := (str_num (num_digits (by simp) (by decide) (by decide))).sum
theorem s_three : Str SumL 0 [51] := (str_num (num_digits (by simp) (by decide) (by decide))).sum
theorem s_five : Str SumL 0 [53] := (str_num (num_digits (by simp) (by decide) (by decide))).sum
theorem le_lex {t : ByteArray} (h : IsLE t) : ∃ g, g ∈ Vrel ∧ lexC 5 ([32] ++ (t.data.toList ++ [32])) = some ([(4, g)], true) := by
 rcases h with rfl | rfl
 ·exact ⟨⟨#[60]⟩, isin (by decide), rfl⟩
 ·exact ⟨⟨#[61, 61]⟩, isin (by decide), rfl⟩
theorem TextS.cast {a b : Bs} (h : TextS a) (e : a = b) : TextS b := e ▸ h
theorem nameC {c : UInt8} {m d : ByteArray} (hc : digB c = false) (hr : runB c = true) (hm : IsLt m) (hd : IsDg d) : NameS ([c] ++ (m.data.toList ++ d.data.toList)) := n_dig hc hr (lt_run hm) hd
theorem g_rec {n : Nat} {w t : Bs} (hn : n < 50) (hw : NameS w) (ht : Str SumL n t) : TextS ([102, 110, 32] ++ (w ++ ([40, 97, 58, 32, 105, 110, 116, 44, 32, 98, 58, 32, 105, 110, 116, 41, 32, 45, 62, 32, 105, 110, 116, 32, 123, 32] ++ (([105, 102, 32] ++ (([97] ++ ([32, 60, 32] ++ [49])) ++ ([32, 123, 32] ++ ([98] ++ ([32, 125, 32, 101, 108, 115, 101, 32, 123, 32] ++ ((w ++ ([40] ++ (([97] ++ ([32, 45, 32] ++ [49])) ++ ([44, 32] ++ (t ++ [41]))))) ++ [32, 125])))))) ++ [32, 125])))) := by
 have ha : Str SumL n [97] := (str_name name_a).sum.mono (Nat.zero_le _)
 have hb : Str SumL (n + 1) [98] := (str_name name_b).sum.mono (Nat.zero_le _)
 have h1 : Str SumL n [49] := s_one.mono (Nat.zero_le _)
 have hc : Str ExL n ([97] ++ ([32, 60, 32] ++ [49])) := str_rel (o := [32, 60, 32]) (g := ⟨#[60]⟩) (isin (by decide)) rfl rfl rfl ha h1
 have hd : Str SumL n ([97] ++ ([32, 45, 32] ++ [49])) := str_op (o := [32, 45, 32]) (g := ⟨#[45]⟩) (isin (by decide)) rfl rfl rfl ha h1
 exact text_fn (n := n + 4) (by omega) hw (body_val (str_if (n := n + 1) (hc.mono (by omega)) hb (str_call2 hw hd ht).sum).sum)
theorem g_two {w : Bs} (hw : NameS w) : Str SumL 1 ((w ++ ([40] ++ ([97] ++ [41]))) ++ ([32, 43, 32] ++ (w ++ ([40] ++ ([98] ++ [41]))))) := by
 exact str_op (o := [32, 43, 32]) (g := ⟨#[43]⟩) (isin (by decide)) rfl rfl rfl (str_call1 hw (str_name name_a).sum).sum (str_call1 hw (str_name name_b).sum).sum
theorem g_base {s : ByteArray} (h : IsBase s) : TextS s.data.toList := by
 rw [h]
 exact TextS.cast text_base (by unfold baseL; decide +kernel)
theorem g_while {n : Nat} {v d t b : Bs} (hn : 1 ≤ n) (hv : NameS v) (hd : Str SumL n d) (ht : Str SumL 0 t) (hb : BodyS (n + 1) b) : BodyS (n + 1) ([108, 101, 116, 32] ++ (v ++ ([32, 61, 32] ++ (d ++ ([59, 32] ++ ([119, 104, 105, 108, 101, 32] ++ (([48] ++ ([32, 60, 32] ++ v)) ++ ([32, 123, 32] ++ ((v ++ ([32, 61, 32] ++ ((v ++ ([32, 45, 32] ++ [49])) ++ ([59, 32] ++ ([112, 114, 105, 110, 116, 32] ++ (t ++ ([59, 32] ++ [125]))))))) ++ ([32] ++ b)))))))))) := by
 have hs : Str SumL 0 v := (str_name hv).sum
 have hc : Str ExL 0 ([48] ++ ([32, 60, 32] ++ v)) := str_rel (o := [32, 60, 32]) (g := ⟨#[60]⟩) (isin (by decide)) rfl rfl rfl s_zero hs
 have h1 : Str SumL 0 (v ++ ([32, 45, 32] ++ [49])) := str_op (o := [32, 45, 32]) (g := ⟨#[45]⟩) (isin (by decide)) rfl rfl rfl hs s_one
 exact body_let hv hd (body_while (n := n) (hc.mono (Nat.zero_le _)) ((body_assign (n := 0) hv h1 (body_print (n := 0) ht (body_fin.mono (Nat.zero_le _)))).mono hn) hb)
end Gr
end Go.Proofs.YtheigpiffdabnaaGreat
namespace Go.Proofs.YtheigpiffdabnaaGreat
open Go Go.RowKit
namespace Gr
open Lx
theorem g_p {n : Nat} {s x : ByteArray} (h : gP n s) (k : ∀ t, BodyS (n + 1) t → BodyS (n + 1) (x.data.toList ++ t)) : gP n (s ++ x) := by
 obtain ⟨b, e, hb⟩ := h
 refine ⟨b ++ x.data.toList, by rw [cat, e, List.append_assoc], fun t ht => ?_⟩
 rw [List.append_assoc]
 exact hb _ (k t ht)
theorem s_up {m n : Nat} {s : ByteArray} (h : gS m s) (hn : m ≤ n) : gS n s := Str.mono h hn
def grP : Gp where
 N := gN
 A := gA
 S := gS
 E := gE
 P := gP
 K := gK
 T := gT
 n_a := name_a
 n_b := name_b
 n_e := name_e
 n_v h := n_dig (m := ⟨#[]⟩) (by decide) (by decide) (by simp) h
 n_w h := n_dig (m := ⟨#[]⟩) (by decide) (by decide) (by simp) h
 n_c hm h := by unfold gN; rw [cat, cat]; exact nameC (by decide) (by decide) hm h
 n_m hm h := by unfold gN; rw [cat, cat]; exact nameC (by decide) (by decide) hm h
 n_f hm h := by unfold gN; rw [cat, cat]; exact nameC (by decide) (by decide) hm h
 a_n h := str_name h
 a_d {s} h hs := str_num (num_digits (by obtain ⟨y, l, e, -⟩ := dg_ne h; rw [e]; simp) (dg_dig h) (by have : s.data.toList.length = s.size := rfl; omega))
 s_a h := Str.sum h
 s_up h hn := Str.mono h hn
 e_up h hn := Str.mono h hn
 k_up h hn := by
  obtain ⟨b, e, hb⟩ := h
  exact ⟨b, e, hb.mono hn⟩
 s_neg h := by
  unfold gS; rw [cat]
  exact (str_minus h).sum
 s_par hs ht hu := by
  unfold gS
  simp only [cat, List.append_assoc]
  have := (str_paren (fun d T h => h.ex.t) (g_op hs ht hu)).sum
  simp only [List.append_assoc] at this
  exact this
 s_op hs ht hu := by
  unfold gS
  simp only [cat, List.append_assoc]
  exact g_op hs ht hu
 s_if hc hs ht := by
  unfold gS
  simp only [cat, List.append_assoc]
  exact (str_if hc hs ht).sum
 s_k h := by
  obtain ⟨b, e, hb⟩ := h
  unfold gS
  rw [e]
  exact (str_block hb).sum
 s_call hf hs ht := by
  unfold gS
  simp only [cat, List.append_assoc]
  exact (str_call2 hf hs ht).sum
 s_mac hf hs := by
  unfold gS
  simp only [cat, List.append_assoc]
  exact (str_expand hf hs).sum
 s_new hs ht hu := by
  unfold gS
  simp only [cat, List.append_assoc]
  rcases hu with rfl | rfl
  ·exact (str_new2_dot lex_x name_P hs ht).sum
  ·exact (str_new2_dot lex_y name_P hs ht).sum
 s_box hs := by
  unfold gS
  simp only [cat, List.append_assoc]
  exact (str_box_dots hs).sum
 s_show hs := by
  unfold gS
  simp only [cat, List.append_assoc]
  exact (str_call1 name_show hs).sum
 s_p1 hs := by
  unfold gS
  simp only [cat, List.append_assoc]
  exact (str_new2 name_P hs (s_one.mono (Nat.zero_le _))).sum
 s_b1 hs := by
  unfold gS
  simp only [cat, List.append_assoc]
  exact (str_new1 name_Box hs).sum
 e_not h := by
  unfold gE
  simp only [cat, List.append_assoc]
  have hr : Str ExL 0 (_ ++ ([32, 60, 32] ++ [51])) := str_rel (o := [32, 60, 32]) (g := ⟨#[60]⟩) (isin (by decide)) rfl rfl rfl (Str.sum h) s_three
  have := (str_not (str_paren (fun d T h => h.t) hr)).sum.ex
  simp only [List.append_assoc] at this
  exact this
 e_ao h ht := by
  unfold gE
  simp only [cat, List.append_assoc]
  rcases ht with rfl | rfl
  ·have h2 := str_and (str_paren (fun d T h => h.t) h)
   simp only [List.append_assoc] at h2
   exact h2
  ·have h2 := str_or (str_paren (fun d T h => h.t) h)
   simp only [List.append_assoc] at h2
   exact h2
 e_tf h := by
  rcases h with rfl | rfl
  ·exact str_true
  ·exact str_false
 e_le hs ht hu := by
  unfold gE
  simp only [cat, List.append_assoc]
  obtain ⟨g, hg, ho⟩ := le_lex ht
  have := str_rel hg ho rfl rfl hs hu
  simp only [List.append_assoc] at this
  exact this
 p_beg := ⟨[], rfl, fun t h => h⟩
 p_let h hv hs := g_p h fun b hb => by
  simp only [cat, List.append_assoc]
  exact body_let hv hs hb
 p_set h hv hs := g_p h fun b hb => by
  simp only [cat, List.append_assoc]
  exact body_assign hv hs hb
 p_print h hs := g_p h fun b hb => by
  simp only [cat, List.append_assoc]
  exact body_print hs hb
 p_while {n s v d t} h hv hd hdz ht hn := g_p h fun b hb => by
  simp only [cat, List.append_assoc]
  have hD : Str SumL n d.data.toList := (Str.sum (str_num (num_digits (by obtain ⟨y, l, e, -⟩ := dg_ne hd; rw [e]; simp) (dg_dig hd) (Nat.le_trans hdz (by decide))))).mono (Nat.zero_le _)
  have h2 := g_while hn hv hD (Str.sum ht) hb
  simp only [List.append_assoc] at h2
  exact h2
 p_fin h hs := by
  obtain ⟨b, e, hb⟩ := h
  refine ⟨b ++ (_ ++ [32, 125]), ?_, hb _ (body_val hs)⟩
  simp only [cat, e, List.append_assoc]
 t_nil := text_nil
 t_const hn hm hd hs := by
  unfold gT
  simp only [cat, List.append_assoc]
  have := text_const (by omega) (nameC (c := 99) (by decide) (by decide) hm hd) hs
  simp only [List.append_assoc] at this
  exact this
 m_1 := str_op (n := 5) (s := [101]) (t := [101]) (o := [32, 43, 32]) (g := ⟨#[43]⟩) (isin (by decide)) rfl rfl rfl ((str_name name_e).sum.mono (Nat.zero_le _)) ((str_name name_e).sum.mono (Nat.zero_le _))
 m_2 := (str_block (n := 1) (body_let (n := 0) (v := [116]) (s := [101]) name_t (str_name name_e).sum (body_val (n := 0) (s := [116, 32, 42, 32, 116]) (str_op (s := [116]) (t := [116]) (o := [32, 42, 32]) (g := ⟨#[42]⟩) (isin (by decide)) rfl rfl rfl (str_name name_t).sum (str_name name_t).sum)))).sum.mono (by decide)
 m_3 := (str_if (n := 0) (c := [101, 32, 60, 32, 53]) (s := [49]) (t := [101]) ((str_rel (s := [101]) (t := [53]) (o := [32, 60, 32]) (g := ⟨#[60]⟩) (isin (by decide)) rfl rfl rfl (str_name name_e).sum s_five).mono (by decide)) s_one (str_name name_e).sum).sum.mono (by decide)
 t_mac hn hm hd hs := by
  unfold gT
  simp only [cat, List.append_assoc]
  have := text_macro (by omega) (nameC (c := 109) (by decide) (by decide) hm hd) hs
  simp only [List.append_assoc] at this
  exact this
 t_rec hn hm hd hs := by
  unfold gT
  simp only [cat, List.append_assoc]
  have := g_rec hn (nameC (c := 102) (by decide) (by decide) hm hd) hs
  simp only [List.append_assoc] at this
  exact this
 t_gen hm hd := by
  unfold gT
  simp only [cat, List.append_assoc]
  have h1 := text_gen (nameC (c := 103) (by decide) (by decide) hm hd)
  have h2 := text_fn (n := 2) (by decide) (nameC (c := 102) (by decide) (by decide) hm hd) (body_val (g_two (nameC (c := 103) (by decide) (by decide) hm hd)))
  have := h1.app h2
  simp only [List.append_assoc] at this
  exact this
 t_fn hn hm hd hk := by
  obtain ⟨b, e, hb⟩ := hk
  unfold gT
  simp only [cat, List.append_assoc, e]
  have := text_fn (by omega) (nameC (c := 102) (by decide) (by decide) hm hd) hb
  simp only [List.append_assoc] at this
  exact this
 t_use h ho hm := by
  unfold gT
  simp only [cat, List.append_assoc]
  refine TextS.app h ?_
  rcases hm with rfl | rfl | rfl <;> rcases ho with rfl | rfl
  ·exact text_use name_a
  ·exact text_pub name_a
  ·exact text_use name_b
  ·exact text_pub name_b
  ·exact text_use name_c
  ·exact text_pub name_c
 t_base h hb := by
  unfold gT
  rw [cat]
  exact TextS.app h (g_base hb)
 t_item h ht := by
  unfold gT
  simp only [cat, List.append_assoc]
  exact TextS.app h (TextS.app ht text_line)
 t_main hn h hk := by
  obtain ⟨b, e, hb⟩ := hk
  unfold gT
  simp only [cat, List.append_assoc, e]
  refine TextS.app h ?_
  have := TextS.app (text_main (by omega) hb) text_line
  simp only [List.append_assoc] at this
  exact this
end Gr
end Go.Proofs.YtheigpiffdabnaaGreat
