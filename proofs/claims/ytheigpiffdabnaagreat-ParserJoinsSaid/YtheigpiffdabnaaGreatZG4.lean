/-
  PLAIN: strings that are items (the pieces that made programs are put together of).
-/
import Derived.Test.YtheigpiffdabnaaGreatZG3
set_option linter.unusedSectionVars false
set_option linter.unusedSimpArgs false
set_option linter.unusedVariables false
namespace Go.Proofs.YtheigpiffdabnaaGreat
open Go Go.RowKit
namespace Gr
open Lx
/-- a text of items -/
def TextS (s : Bs) : Prop := ∃ T, Lxs true s T ∧ ItemsL T
theorem text_nil : TextS [] := ⟨[], lxs_nil, .nil⟩
theorem TextS.app {s t : Bs} (h : TextS s) (ht : TextS t) : TextS (s ++ t) := by
 obtain ⟨T, h1, h2⟩ := h
 obtain ⟨U, k1, k2⟩ := ht
 exact ⟨T ++ U, h1.app k1 (.inl rfl), h2.app k2⟩
theorem text_line : TextS [10] := ⟨[], lxs_blank rfl, .nil⟩
theorem text_use {w : Bs} (h : NameS w) : TextS ([117, 115, 101, 32] ++ (w ++ [59, 10])) := by
 refine ⟨[(2, ⟨#[117, 115, 101]⟩)] ++ ([(1, mk w)] ++ [(4, ⟨#[59]⟩)]), Lxs.lit 9 rfl (h.lxs.hole (lexC_sound 4 [59, 10] _ true rfl) rfl rfl), ?_⟩
 exact (it_use (k := 2) (l := 4) (by decide)).items
theorem text_pub {w : Bs} (h : NameS w) : TextS ([112, 117, 98, 32, 117, 115, 101, 32] ++ (w ++ [59, 10])) := by
 refine ⟨[(2, ⟨#[112, 117, 98]⟩), (2, ⟨#[117, 115, 101]⟩)] ++ ([(1, mk w)] ++ [(4, ⟨#[59]⟩)]), Lxs.lit 12 rfl (h.lxs.hole (lexC_sound 4 [59, 10] _ true rfl) rfl rfl), ?_⟩
 exact (it_pub (k := 2) (m := 2) (l := 4) (by decide)).items
theorem ty_int {s : Bool} : Rd (fun r => typL r s 60) [] [(2, ⟨#[105, 110, 116]⟩)] := ty_word (d := 59) (isin (by decide))
theorem text_const {n : Nat} {w s : Bs} (hn : n < 60) (h : NameS w) (hs : Str SumL n s) : TextS ([99, 111, 110, 115, 116, 32] ++ (w ++ ([58, 32, 105, 110, 116, 32, 61, 32] ++ (s ++ [59])))) := by
 obtain ⟨T, h1, h2, -⟩ := hs
 refine ⟨[(2, ⟨#[99, 111, 110, 115, 116]⟩)] ++ ([(1, mk w)] ++ ([(4, ⟨#[58]⟩), (2, ⟨#[105, 110, 116]⟩), (4, ⟨#[61]⟩)] ++ (T ++ [(4, ⟨#[59]⟩)]))), Lxs.lit 12 rfl (h.lxs.hole (Lxs.lit 12 rfl (Lxs.hole h1 (lexC_sound 4 [59] _ true rfl) rfl rfl)) rfl rfl), ?_⟩
 exact (it_const (k := 2) (l := 4) (m := 4) (p := 4) (by decide) (ty_int (s := false)) (by simp) (sum_ext h2 60 (by omega))).items
theorem text_macro {n : Nat} {w s : Bs} (hn : n < 60) (h : NameS w) (hs : Str SumL n s) : TextS ([109, 97, 99, 114, 111, 32] ++ (w ++ ([40, 101, 41, 32, 61, 32] ++ (s ++ [59])))) := by
 obtain ⟨T, h1, h2, -⟩ := hs
 refine ⟨[(2, ⟨#[109, 97, 99, 114, 111]⟩)] ++ ([(1, mk w)] ++ ([(4, ⟨#[40]⟩), (1, ⟨#[101]⟩), (4, ⟨#[41]⟩), (4, ⟨#[61]⟩)] ++ (T ++ [(4, ⟨#[59]⟩)]))), Lxs.lit 12 rfl (h.lxs.hole (Lxs.lit 12 rfl (Lxs.hole h1 (lexC_sound 4 [59] _ true rfl) rfl rfl)) rfl rfl), ?_⟩
 exact (it_macro (k := 2) (a := 4) (b := 4) (c := 4) (d := 4) (s := ⟨#[101]⟩) (by decide) (noteq rfl) (sum_ext h2 60 (by omega))).items
theorem args_none {P : Rdr → PM Tree} : ArgsL P ⟨#[41]⟩ [] := ⟨fun be k l => rd_args (part := fun r => argP r (P r)) (Q := fun _ => False) (F := []) (fun T h => h.elim) (by simp) (notin rfl) (.inl rfl)⟩
/-- two args of the same type -/
theorem args_two {P : Rdr → PM Tree} {s t : ByteArray} {R : List KT} (hs : s ≠ ⟨#[41]⟩) (hR : Rd P [] R) : ArgsL P ⟨#[41]⟩ ((1, s) :: (4, ⟨#[58]⟩) :: (R ++ (4, ⟨#[44]⟩) :: (1, t) :: (4, ⟨#[58]⟩) :: R)) := by
 refine ⟨fun be k l => rd_args (part := fun r => argP r (P r)) (Q := fun T => Rd (fun r => argP r (P r)) [] T) (F := []) (fun T h => h) (by simp) (notin rfl) (.inr ⟨_, _, rfl, hs, ?_⟩)⟩
 exact .cons (T := (1, s) :: (4, ⟨#[58]⟩) :: R) (k := 4) (rd_arg hR) (by simp) (.one (rd_arg hR))
theorem blk_rd {n : Nat} {T : List KT} (hn : n < 60) (h : ∀ d, n ≤ d → BodyL d T) : Rd (BB 60) [] ((4, ⟨#[123]⟩) :: T) := by
 obtain ⟨k, U, e, -, -, -, hR⟩ := blk_of (k := 4) (by decide) (by decide) (h 59 (by omega))
 exact hR
theorem text_fn {n : Nat} {w b : Bs} (hn : n < 60) (h : NameS w) (hb : BodyS n b) : TextS ([102, 110, 32] ++ (w ++ ([40, 97, 58, 32, 105, 110, 116, 44, 32, 98, 58, 32, 105, 110, 116, 41, 32, 45, 62, 32, 105, 110, 116, 32, 123, 32] ++ b))) := by
 obtain ⟨T, h1, h2⟩ := hb
 refine ⟨[(2, ⟨#[102, 110]⟩)] ++ ([(1, mk w)] ++ ([(4, ⟨#[40]⟩), (1, ⟨#[97]⟩), (4, ⟨#[58]⟩), (2, ⟨#[105, 110, 116]⟩), (4, ⟨#[44]⟩), (1, ⟨#[98]⟩), (4, ⟨#[58]⟩), (2, ⟨#[105, 110, 116]⟩), (4, ⟨#[41]⟩), (4, ⟨#[45, 62]⟩), (2, ⟨#[105, 110, 116]⟩), (4, ⟨#[123]⟩)] ++ T)), Lxs.lit 12 rfl (h.lxs.hole (Lxs.lit 40 rfl h1) rfl rfl), ?_⟩
 exact (it_fn (k := 2) (a := 4) (b := 4) (c := 4) (P := []) (by decide) rd_params0 (notin rfl) (args_two (s := ⟨#[97]⟩) (t := ⟨#[98]⟩) (noteq rfl) (ty_int (s := false))) (ty_int (s := false)) (by simp) (blk_rd hn h2)).items
theorem text_main {n : Nat} {b : Bs} (hn : n < 60) (hb : BodyS n b) : TextS ([102, 110, 32, 109, 97, 105, 110, 40, 41, 32, 45, 62, 32, 105, 110, 116, 32, 123, 32] ++ b) := by
 obtain ⟨T, h1, h2⟩ := hb
 refine ⟨[(2, ⟨#[102, 110]⟩), (1, ⟨#[109, 97, 105, 110]⟩), (4, ⟨#[40]⟩), (4, ⟨#[41]⟩), (4, ⟨#[45, 62]⟩), (2, ⟨#[105, 110, 116]⟩), (4, ⟨#[123]⟩)] ++ T, Lxs.lit 40 rfl h1, ?_⟩
 exact (it_fn (k := 2) (a := 4) (b := 4) (c := 4) (P := []) (by decide) rd_params0 (notin rfl) args_none (ty_int (s := false)) (by simp) (blk_rd hn h2)).items
/-- a text without errors -/
theorem TextS.mod {s : ByteArray} (h : TextS s.data.toList) (hs : s.size ≤ 20000) : ∃ ts, modOf s = some (ts, []) := by
 obtain ⟨T, h1, h2⟩ := h
 exact mod_text h1 h2 hs
end Gr
end Go.Proofs.YtheigpiffdabnaaGreat
namespace Go.Proofs.YtheigpiffdabnaaGreat
open Go Go.RowKit
namespace Gr
open Lx
theorem args_one {P : Rdr → PM Tree} {F : List ByteArray} {s en : ByteArray} {R : List KT} (hs : s ≠ en) (hF : ⟨#[44]⟩ ∉ F) (he : en ∉ F ++ [⟨#[44]⟩]) (hR : Rd P F R) : ArgsL P en ((1, s) :: (4, ⟨#[58]⟩) :: R) :=
 ⟨fun be k l => rd_args (part := fun r => argP r (P r)) (Q := fun T => Rd (fun r => argP r (P r)) F T) (fun T h => h) hF he (.inr ⟨_, _, rfl, hs, .one (rd_arg hR)⟩)⟩
theorem ty_T : Rd (fun r => typL r false 60) [⟨#[60]⟩] [(1, ⟨#[84]⟩)] := ty_name (d := 59) (notin rfl) (noteq rfl)
theorem name_x : NameS [120] := ⟨by simp, by decide, rfl, notin rfl⟩
theorem text_gen {w : Bs} (h : NameS w) : TextS ([102, 110, 32] ++ (w ++ [60, 84, 62, 40, 120, 58, 32, 84, 41, 32, 45, 62, 32, 84, 32, 123, 32, 120, 32, 125, 10])) := by
 obtain ⟨T, h1, h2⟩ := body_val (str_name name_x).sum
 refine ⟨[(2, ⟨#[102, 110]⟩)] ++ ([(1, mk w)] ++ ([(4, ⟨#[60]⟩), (1, ⟨#[84]⟩), (4, ⟨#[62]⟩), (4, ⟨#[40]⟩), (1, ⟨#[120]⟩), (4, ⟨#[58]⟩), (1, ⟨#[84]⟩), (4, ⟨#[41]⟩), (4, ⟨#[45, 62]⟩), (1, ⟨#[84]⟩), (4, ⟨#[123]⟩)] ++ (T ++ []))), Lxs.lit 12 rfl (h.lxs.hole (Lxs.lit 40 (l := [60, 84, 62, 40, 120, 58, 32, 84, 41, 32, 45, 62, 32, 84, 32, 123, 32]) rfl (h1.app (lxs_blank (c := 10) rfl) (.inl rfl))) rfl rfl), ?_⟩
 rw [List.append_nil]
 exact (it_fn (k := 2) (a := 4) (b := 4) (c := 4) (P := (4, ⟨#[60]⟩) :: ([(1, ⟨#[84]⟩)] ++ [(4, ⟨#[62]⟩)])) (by decide) (rd_params1 rd_param (by simp) (notin rfl) (notin rfl)) (by simp) (args_one (s := ⟨#[120]⟩) (noteq rfl) (notin rfl) (notin rfl) ty_T) ty_T (notin rfl) (blk_rd (n := 1) (by omega) h2)).items
end Gr
end Go.Proofs.YtheigpiffdabnaaGreat
namespace Go.Proofs.YtheigpiffdabnaaGreat
open Go Go.RowKit
namespace Gr
open Lx
theorem args_two2 {P : Rdr → PM Tree} {F : List ByteArray} {s t en : ByteArray} {R S : List KT} (hs : s ≠ en) (hF : ⟨#[44]⟩ ∉ F) (he : en ∉ F ++ [⟨#[44]⟩]) (hR : Rd P F R) (hS : Rd P F S) : ArgsL P en ((1, s) :: (4, ⟨#[58]⟩) :: (R ++ (4, ⟨#[44]⟩) :: (1, t) :: (4, ⟨#[58]⟩) :: S)) :=
 ⟨fun be k l => rd_args (part := fun r => argP r (P r)) (Q := fun T => Rd (fun r => argP r (P r)) F T) (fun T h => h) hF he (.inr ⟨_, _, rfl, hs, .cons (T := (1, s) :: (4, ⟨#[58]⟩) :: R) (k := 4) (rd_arg hR) (by simp) (.one (rd_arg hS))⟩)⟩
theorem item_P : ItL [(2, ⟨#[116, 121, 112, 101]⟩), (1, ⟨#[80]⟩), (4, ⟨#[123]⟩), (1, ⟨#[120]⟩), (4, ⟨#[58]⟩), (2, ⟨#[105, 110, 116]⟩), (4, ⟨#[44]⟩), (1, ⟨#[121]⟩), (4, ⟨#[58]⟩), (2, ⟨#[105, 110, 116]⟩), (4, ⟨#[125]⟩)] :=
 it_type (k := 2) (a := 4) (b := 4) (P := []) (by decide) rd_params0 (notin rfl) (args_two2 (F := []) (s := ⟨#[120]⟩) (t := ⟨#[121]⟩) (noteq rfl) (by simp) (notin rfl) (ty_int (s := false)) (ty_int (s := false)))
theorem item_Box : ItL [(2, ⟨#[116, 121, 112, 101]⟩), (1, ⟨#[66, 111, 120]⟩), (4, ⟨#[60]⟩), (1, ⟨#[84]⟩), (4, ⟨#[62]⟩), (4, ⟨#[123]⟩), (1, ⟨#[118]⟩), (4, ⟨#[58]⟩), (1, ⟨#[84]⟩), (4, ⟨#[125]⟩)] :=
 it_type (k := 2) (a := 4) (b := 4) (P := (4, ⟨#[60]⟩) :: ([(1, ⟨#[84]⟩)] ++ [(4, ⟨#[62]⟩)])) (by decide) (rd_params1 rd_param (by simp) (notin rfl) (notin rfl)) (by simp) (args_one (s := ⟨#[118]⟩) (noteq rfl) (notin rfl) (notin rfl) ty_T)
theorem item_Show : ItL [(2, ⟨#[116, 114, 97, 105, 116]⟩), (1, ⟨#[83, 104, 111, 119]⟩), (4, ⟨#[123]⟩), (2, ⟨#[102, 110]⟩), (1, ⟨#[115, 104, 111, 119]⟩), (4, ⟨#[40]⟩), (1, ⟨#[120]⟩), (4, ⟨#[58]⟩), (2, ⟨#[83, 101, 108, 102]⟩), (4, ⟨#[41]⟩), (4, ⟨#[45, 62]⟩), (2, ⟨#[105, 110, 116]⟩), (4, ⟨#[59]⟩), (4, ⟨#[125]⟩)] :=
 it_trait (k := 2) (a := 4) (by decide) (.cons (rd_sig (k := 2) (a := 4) (b := 4) (c := 4) (d := 4) (args_one (F := []) (s := ⟨#[120]⟩) (noteq rfl) (by simp) (notin rfl) (ty_self (d := 59))) (ty_int (s := true)) (by simp)) (noteq rfl) (.fin 4))
end Gr
end Go.Proofs.YtheigpiffdabnaaGreat
namespace Go.Proofs.YtheigpiffdabnaaGreat
open Go Go.RowKit
namespace Gr
open Lx
theorem un_name {d : Nat} {s : ByteArray} (h : s ∉ HdF ++ Vun) : UnL d [(1, s)] := ⟨un_post (fun e => h (List.mem_append_right _ e)) (post_of pr_name), .one (fun e => h (List.mem_append_left _ e)) nil_head⟩
theorem un_dot {d : Nat} {s t : ByteArray} (h : s ∉ HdF ++ Vun) : UnL d [(1, s), (4, ⟨#[46]⟩), (1, t)] := ⟨un_post (fun e => h (List.mem_append_right _ e)) (post_dots pr_name (4, t) []), .one (fun e => h (List.mem_append_left _ e)) (cons_head (noteq rfl))⟩
theorem un_call {d : Nat} {s : ByteArray} {T : List KT} (h : s ∉ HdF ++ Vun) (hT : ExT d T) : UnL d ((1, s) :: (4, ⟨#[40]⟩) :: (T ++ [(4, ⟨#[41]⟩)])) := ⟨un_post (fun e => h (List.mem_append_right _ e)) (post_of (pr_call (args1 hT))), .one (fun e => h (List.mem_append_left _ e)) (cons_head (noteq rfl))⟩
theorem un_num {d : Nat} {s : ByteArray} (h : s ∉ HdF ++ Vun) : UnL d [(3, s)] := ⟨un_post (fun e => h (List.mem_append_right _ e)) ((post_of pr_int).mono fun v hv => hv), .one (fun e => h (List.mem_append_left _ e)) nil_head⟩
theorem body_x : BodyL 59 [(1, ⟨#[120]⟩), (4, ⟨#[125]⟩)] := .val (un_name (d := 58) (notin rfl)).sum.ex.t 4
theorem sum_xy : SumL 58 ([(1, ⟨#[120]⟩), (4, ⟨#[46]⟩), (1, ⟨#[120]⟩)] ++ (4, ⟨#[43]⟩) :: ((1, ⟨#[115, 104, 111, 119]⟩) :: (4, ⟨#[40]⟩) :: ([(1, ⟨#[120]⟩), (4, ⟨#[46]⟩), (1, ⟨#[121]⟩)] ++ [(4, ⟨#[41]⟩)]))) := by
 refine Chn.snoc (sg := ⟨#[43]⟩) ?_ (isin (by decide)) (.one ?_)
 ·exact (un_dot (d := 58) (s := ⟨#[120]⟩) (t := ⟨#[120]⟩) (notin rfl)).sum
 ·exact un_call (d := 58) (s := ⟨#[115, 104, 111, 119]⟩) (notin rfl) (un_dot (d := 57) (s := ⟨#[120]⟩) (t := ⟨#[121]⟩) (notin rfl)).sum.ex.t
theorem sum_v1 : SumL 58 (((1, ⟨#[115, 104, 111, 119]⟩) :: (4, ⟨#[40]⟩) :: ([(1, ⟨#[120]⟩), (4, ⟨#[46]⟩), (1, ⟨#[118]⟩)] ++ [(4, ⟨#[41]⟩)])) ++ (4, ⟨#[43]⟩) :: [(3, ⟨#[49]⟩)]) := by
 refine Chn.snoc (sg := ⟨#[43]⟩) ?_ (isin (by decide)) (.one ?_)
 ·exact (un_call (d := 58) (s := ⟨#[115, 104, 111, 119]⟩) (notin rfl) (un_dot (d := 57) (s := ⟨#[120]⟩) (t := ⟨#[118]⟩) (notin rfl)).sum.ex.t).sum
 ·exact un_num (d := 58) (s := ⟨#[49]⟩) (notin rfl)
theorem body_xy : BodyL 59 [(1, ⟨#[120]⟩), (4, ⟨#[46]⟩), (1, ⟨#[120]⟩), (4, ⟨#[43]⟩), (1, ⟨#[115, 104, 111, 119]⟩), (4, ⟨#[40]⟩), (1, ⟨#[120]⟩), (4, ⟨#[46]⟩), (1, ⟨#[121]⟩), (4, ⟨#[41]⟩), (4, ⟨#[125]⟩)] := .val sum_xy.ex.t 4
theorem body_v1 : BodyL 59 [(1, ⟨#[115, 104, 111, 119]⟩), (4, ⟨#[40]⟩), (1, ⟨#[120]⟩), (4, ⟨#[46]⟩), (1, ⟨#[118]⟩), (4, ⟨#[41]⟩), (4, ⟨#[43]⟩), (3, ⟨#[49]⟩), (4, ⟨#[125]⟩)] := .val sum_v1.ex.t 4
theorem blk_59 {T : List KT} (h : BodyL 59 T) : Rd (BB 60) [] ((4, ⟨#[123]⟩) :: T) := by
 obtain ⟨k, U, e, -, -, -, hR⟩ := blk_of (k := 4) (by decide) (by decide) h
 exact hR
theorem ty_P : Rd (fun r => typL r false 60) [⟨#[60]⟩] [(1, ⟨#[80]⟩)] := ty_name (d := 59) (notin rfl) (noteq rfl)
theorem ty_BoxT : Rd (fun r => typL r false 60) [] [(1, ⟨#[66, 111, 120]⟩), (4, ⟨#[60]⟩), (1, ⟨#[84]⟩), (4, ⟨#[62]⟩)] := ty_app (d := 59) (k := 4) (l := 4) (F := [⟨#[60]⟩]) (U := [(1, ⟨#[84]⟩)]) (notin rfl) (noteq rfl) (ty_name (d := 58) (notin rfl) (noteq rfl)) (by simp) (notin rfl) (notin rfl)
theorem impl_int : ItL [(2, ⟨#[105, 109, 112, 108]⟩), (1, ⟨#[83, 104, 111, 119]⟩), (2, ⟨#[102, 111, 114]⟩), (2, ⟨#[105, 110, 116]⟩), (4, ⟨#[123]⟩), (2, ⟨#[102, 110]⟩), (1, ⟨#[115, 104, 111, 119]⟩), (4, ⟨#[40]⟩), (1, ⟨#[120]⟩), (4, ⟨#[58]⟩), (2, ⟨#[105, 110, 116]⟩), (4, ⟨#[41]⟩), (4, ⟨#[45, 62]⟩), (2, ⟨#[105, 110, 116]⟩), (4, ⟨#[123]⟩), (1, ⟨#[120]⟩), (4, ⟨#[125]⟩), (4, ⟨#[125]⟩)] :=
 it_impl (k := 2) (a := 2) (b := 4) (P := []) (R := [(2, ⟨#[105, 110, 116]⟩)]) (by decide) rd_params0 (notin rfl) (ty_int (s := false)) (by simp) (.cons (rd_function (Ps := fun r => noParamsP r) (Bk := BB 60) (k := 2) (a := 4) (b := 4) (c := 4) (P := []) (A := [(1, ⟨#[120]⟩), (4, ⟨#[58]⟩), (2, ⟨#[105, 110, 116]⟩)]) (R := [(2, ⟨#[105, 110, 116]⟩)]) rd_noParams (by simp) (args_one (F := []) (s := ⟨#[120]⟩) (noteq rfl) (by simp) (notin rfl) (ty_int (s := false))) (ty_int (s := false)) (by simp) (blk_59 body_x)) (noteq rfl) (.fin 4))
theorem impl_P : ItL [(2, ⟨#[105, 109, 112, 108]⟩), (1, ⟨#[83, 104, 111, 119]⟩), (2, ⟨#[102, 111, 114]⟩), (1, ⟨#[80]⟩), (4, ⟨#[123]⟩), (2, ⟨#[102, 110]⟩), (1, ⟨#[115, 104, 111, 119]⟩), (4, ⟨#[40]⟩), (1, ⟨#[120]⟩), (4, ⟨#[58]⟩), (1, ⟨#[80]⟩), (4, ⟨#[41]⟩), (4, ⟨#[45, 62]⟩), (2, ⟨#[105, 110, 116]⟩), (4, ⟨#[123]⟩), (1, ⟨#[120]⟩), (4, ⟨#[46]⟩), (1, ⟨#[120]⟩), (4, ⟨#[43]⟩), (1, ⟨#[115, 104, 111, 119]⟩), (4, ⟨#[40]⟩), (1, ⟨#[120]⟩), (4, ⟨#[46]⟩), (1, ⟨#[121]⟩), (4, ⟨#[41]⟩), (4, ⟨#[125]⟩), (4, ⟨#[125]⟩)] :=
 it_impl (k := 2) (a := 2) (b := 4) (P := []) (R := [(1, ⟨#[80]⟩)]) (by decide) rd_params0 (notin rfl) ty_P (notin rfl) (.cons (rd_function (Ps := fun r => noParamsP r) (Bk := BB 60) (k := 2) (a := 4) (b := 4) (c := 4) (P := []) (A := [(1, ⟨#[120]⟩), (4, ⟨#[58]⟩), (1, ⟨#[80]⟩)]) (R := [(2, ⟨#[105, 110, 116]⟩)]) rd_noParams (by simp) (args_one (F := [⟨#[60]⟩]) (s := ⟨#[120]⟩) (noteq rfl) (notin rfl) (notin rfl) ty_P) (ty_int (s := false)) (by simp) (blk_59 body_xy)) (noteq rfl) (.fin 4))
theorem fun_Box : Rd (fun r => functionM r (noParamsP r) (typL r false 60) (subL r 60).B) [] ((2, ⟨#[102, 110]⟩) :: (1, ⟨#[115, 104, 111, 119]⟩) :: ([] ++ (4, ⟨#[40]⟩) :: (([(1, ⟨#[120]⟩), (4, ⟨#[58]⟩), (1, ⟨#[66, 111, 120]⟩), (4, ⟨#[60]⟩), (1, ⟨#[84]⟩), (4, ⟨#[62]⟩)] ++ [(4, ⟨#[41]⟩)]) ++ (4, ⟨#[45, 62]⟩) :: ([(2, ⟨#[105, 110, 116]⟩)] ++ (4, ⟨#[123]⟩) :: [(1, ⟨#[115, 104, 111, 119]⟩), (4, ⟨#[40]⟩), (1, ⟨#[120]⟩), (4, ⟨#[46]⟩), (1, ⟨#[118]⟩), (4, ⟨#[41]⟩), (4, ⟨#[43]⟩), (3, ⟨#[49]⟩), (4, ⟨#[125]⟩)])))) :=
 rd_function (Ps := fun r => noParamsP r) (Bk := BB 60) rd_noParams (by simp) (args_one (F := []) (s := ⟨#[120]⟩) (noteq rfl) (by simp) (notin rfl) ty_BoxT) (ty_int (s := false)) (by simp) (blk_59 body_v1)
theorem par_Box : Rd (fun r => paramsP r) [] ((4, ⟨#[60]⟩) :: ([(1, ⟨#[84]⟩), (4, ⟨#[58]⟩), (1, ⟨#[83, 104, 111, 119]⟩)] ++ [(4, ⟨#[62]⟩)])) := rd_params1 rd_param2 (by simp) (by simp) (by simp)
theorem impl_Box : ItL ((2, ⟨#[105, 109, 112, 108]⟩) :: (((4, ⟨#[60]⟩) :: ([(1, ⟨#[84]⟩), (4, ⟨#[58]⟩), (1, ⟨#[83, 104, 111, 119]⟩)] ++ [(4, ⟨#[62]⟩)])) ++ (1, ⟨#[83, 104, 111, 119]⟩) :: (2, ⟨#[102, 111, 114]⟩) :: ([(1, ⟨#[66, 111, 120]⟩), (4, ⟨#[60]⟩), (1, ⟨#[84]⟩), (4, ⟨#[62]⟩)] ++ (4, ⟨#[123]⟩) :: (((2, ⟨#[102, 110]⟩) :: (1, ⟨#[115, 104, 111, 119]⟩) :: ([] ++ (4, ⟨#[40]⟩) :: (([(1, ⟨#[120]⟩), (4, ⟨#[58]⟩), (1, ⟨#[66, 111, 120]⟩), (4, ⟨#[60]⟩), (1, ⟨#[84]⟩), (4, ⟨#[62]⟩)] ++ [(4, ⟨#[41]⟩)]) ++ (4, ⟨#[45, 62]⟩) :: ([(2, ⟨#[105, 110, 116]⟩)] ++ (4, ⟨#[123]⟩) :: [(1, ⟨#[115, 104, 111, 119]⟩), (4, ⟨#[40]⟩), (1, ⟨#[120]⟩), (4, ⟨#[46]⟩), (1, ⟨#[118]⟩), (4, ⟨#[41]⟩), (4, ⟨#[43]⟩), (3, ⟨#[49]⟩), (4, ⟨#[125]⟩)])))) ++ [(4, ⟨#[125]⟩)])))) :=
 it_impl (by decide) par_Box (by simp) ty_BoxT (by simp) (.cons fun_Box (noteq rfl) (.fin 4))
theorem text_item_P : TextS [116, 121, 112, 101, 32, 80, 32, 123, 32, 120, 58, 32, 105, 110, 116, 44, 32, 121, 58, 32, 105, 110, 116, 32, 125, 10] := ⟨_, lexC_sound 99 _ _ true rfl, item_P.items⟩
theorem text_item_Box : TextS [116, 121, 112, 101, 32, 66, 111, 120, 60, 84, 62, 32, 123, 32, 118, 58, 32, 84, 32, 125, 10] := ⟨_, lexC_sound 99 _ _ true rfl, item_Box.items⟩
theorem text_item_Show : TextS [116, 114, 97, 105, 116, 32, 83, 104, 111, 119, 32, 123, 32, 102, 110, 32, 115, 104, 111, 119, 40, 120, 58, 32, 83, 101, 108, 102, 41, 32, 45, 62, 32, 105, 110, 116, 59, 32, 125, 10] := ⟨_, lexC_sound 99 _ _ true rfl, item_Show.items⟩
theorem text_impl_int : TextS [105, 109, 112, 108, 32, 83, 104, 111, 119, 32, 102, 111, 114, 32, 105, 110, 116, 32, 123, 32, 102, 110, 32, 115, 104, 111, 119, 40, 120, 58, 32, 105, 110, 116, 41, 32, 45, 62, 32, 105, 110, 116, 32, 123, 32, 120, 32, 125, 32, 125, 10] := ⟨_, lexC_sound 99 _ _ true rfl, impl_int.items⟩
theorem text_impl_P : TextS [105, 109, 112, 108, 32, 83, 104, 111, 119, 32, 102, 111, 114, 32, 80, 32, 123, 32, 102, 110, 32, 115, 104, 111, 119, 40, 120, 58, 32, 80, 41, 32, 45, 62, 32, 105, 110, 116, 32, 123, 32, 120, 46, 120, 32, 43, 32, 115, 104, 111, 119, 40, 120, 46, 121, 41, 32, 125, 32, 125, 10] := ⟨_, lexC_sound 99 _ _ true rfl, impl_P.items⟩
theorem text_impl_Box : TextS [105, 109, 112, 108, 60, 84, 58, 32, 83, 104, 111, 119, 62, 32, 83, 104, 111, 119, 32, 102, 111, 114, 32, 66, 111, 120, 60, 84, 62, 32, 123, 32, 102, 110, 32, 115, 104, 111, 119, 40, 120, 58, 32, 66, 111, 120, 60, 84, 62, 41, 32, 45, 62, 32, 105, 110, 116, 32, 123, 32, 115, 104, 111, 119, 40, 120, 46, 118, 41, 32, 43, 32, 49, 32, 125, 32, 125, 10] := ⟨_, lexC_sound 99 _ _ true rfl, impl_Box.items⟩
/-- the whole of it -/
theorem text_base : TextS [116, 121, 112, 101, 32, 80, 32, 123, 32, 120, 58, 32, 105, 110, 116, 44, 32, 121, 58, 32, 105, 110, 116, 32, 125, 10, 116, 121, 112, 101, 32, 66, 111, 120, 60, 84, 62, 32, 123, 32, 118, 58, 32, 84, 32, 125, 10, 116, 114, 97, 105, 116, 32, 83, 104, 111, 119, 32, 123, 32, 102, 110, 32, 115, 104, 111, 119, 40, 120, 58, 32, 83, 101, 108, 102, 41, 32, 45, 62, 32, 105, 110, 116, 59, 32, 125, 10, 105, 109, 112, 108, 32, 83, 104, 111, 119, 32, 102, 111, 114, 32, 105, 110, 116, 32, 123, 32, 102, 110, 32, 115, 104, 111, 119, 40, 120, 58, 32, 105, 110, 116, 41, 32, 45, 62, 32, 105, 110, 116, 32, 123, 32, 120, 32, 125, 32, 125, 10, 105, 109, 112, 108, 32, 83, 104, 111, 119, 32, 102, 111, 114, 32, 80, 32, 123, 32, 102, 110, 32, 115, 104, 111, 119, 40, 120, 58, 32, 80, 41, 32, 45, 62, 32, 105, 110, 116, 32, 123, 32, 120, 46, 120, 32, 43, 32, 115, 104, 111, 119, 40, 120, 46, 121, 41, 32, 125, 32, 125, 10, 105, 109, 112, 108, 60, 84, 58, 32, 83, 104, 111, 119, 62, 32, 83, 104, 111, 119, 32, 102, 111, 114, 32, 66, 111, 120, 60, 84, 62, 32, 123, 32, 102, 110, 32, 115, 104, 111, 119, 40, 120, 58, 32, 66, 111, 120, 60, 84, 62, 41, 32, 45, 62, 32, 105, 110, 116, 32, 123, 32, 115, 104, 111, 119, 40, 120, 46, 118, 41, 32, 43, 32, 49, 32, 125, 32, 125, 10] := text_item_P.app (text_item_Box.app (text_item_Show.app (text_impl_int.app (text_impl_P.app text_impl_Box))))
end Gr
end Go.Proofs.YtheigpiffdabnaaGreat
namespace Go.Proofs.YtheigpiffdabnaaGreat
open Go Go.RowKit
namespace Gr
open Lx
/-- a new record of two fields, and a field of it -/
theorem str_new2_dot {n : Nat} {f s t x : Bs} {g : ByteArray} (hx : lexC 9 (41 :: 46 :: x) = some ([(4, ⟨#[41]⟩), (4, ⟨#[46]⟩), (1, g)], false)) (hf : NameS f) (h : Str SumL n s) (ht : Str SumL n t) : Str UnL (n + 1) ([110, 101, 119, 32] ++ (f ++ ([40] ++ (s ++ ([44, 32] ++ (t ++ (41 :: 46 :: x))))))) := by
 obtain ⟨T, h1, h2, -⟩ := h
 obtain ⟨U, k1, k2, -⟩ := ht
 refine ⟨[(2, ⟨#[110, 101, 119]⟩)] ++ ([(1, mk f)] ++ ([(4, ⟨#[40]⟩)] ++ (T ++ ([(4, ⟨#[44]⟩)] ++ (U ++ [(4, ⟨#[41]⟩), (4, ⟨#[46]⟩), (1, g)]))))), Lxs.lit 9 rfl (hf.lxs.hole (Lxs.lit 3 rfl (Lxs.hole h1 (Lxs.lit 4 rfl (Lxs.hole k1 (lexC_sound 9 _ _ false hx) rfl rfl)) rfl rfl)) rfl rfl), fun d hd => ?_, 110, _, rfl, by decide, by decide⟩
 obtain ⟨d, rfl⟩ : ∃ e, d = e + 1 := ⟨d - 1, by omega⟩
 have := post_dots (pr_new (d := d + 1) (s := mk f) (k := 2) (m := 4) (l := 4) (by decide) (by decide) (args2 (k := 4) (h2 d (by omega)).ex.t (k2 d (by omega)).ex.t)) (4, g) []
 rw [show ((2, (⟨#[110, 101, 119]⟩ : ByteArray)) :: (1, mk f) :: (4, (⟨#[40]⟩ : ByteArray)) :: ((T ++ (4, (⟨#[44]⟩ : ByteArray)) :: U) ++ [(4, (⟨#[41]⟩ : ByteArray))])) ++ dotsT [(4, g)] = (2, ⟨#[110, 101, 119]⟩) :: ([(1, mk f)] ++ ([(4, ⟨#[40]⟩)] ++ (T ++ ([(4, ⟨#[44]⟩)] ++ (U ++ [(4, ⟨#[41]⟩), (4, ⟨#[46]⟩), (1, g)]))))) by simp [dotsT]] at this
 exact ⟨un_post (notin rfl) this, .one (notin rfl) (cons_head fun e => hf.hdF (show mk f ∈ HdF from (show mk f = _ from e) ▸ isin (by decide)))⟩
theorem lex_x : lexC 9 (41 :: 46 :: [120]) = some ([(4, ⟨#[41]⟩), (4, ⟨#[46]⟩), (1, ⟨#[120]⟩)], false) := rfl
theorem lex_y : lexC 9 (41 :: 46 :: [121]) = some ([(4, ⟨#[41]⟩), (4, ⟨#[46]⟩), (1, ⟨#[121]⟩)], false) := rfl
/-- a record in a record, and what is in it -/
theorem str_box_dots {n : Nat} {s : Bs} (h : Str SumL n s) : Str UnL (n + 2) ([110, 101, 119, 32, 66, 111, 120, 40, 110, 101, 119, 32, 66, 111, 120, 40] ++ (s ++ [41, 41, 46, 118, 46, 118])) := by
 obtain ⟨T, h1, h2, -⟩ := h
 refine ⟨[(2, ⟨#[110, 101, 119]⟩), (1, ⟨#[66, 111, 120]⟩), (4, ⟨#[40]⟩), (2, ⟨#[110, 101, 119]⟩), (1, ⟨#[66, 111, 120]⟩), (4, ⟨#[40]⟩)] ++ (T ++ [(4, ⟨#[41]⟩), (4, ⟨#[41]⟩), (4, ⟨#[46]⟩), (1, ⟨#[118]⟩), (4, ⟨#[46]⟩), (1, ⟨#[118]⟩)]), Lxs.lit 20 rfl (Lxs.hole h1 (lexC_sound 9 _ _ false rfl) rfl rfl), fun d hd => ?_, 110, _, rfl, by decide, by decide⟩
 obtain ⟨d, rfl⟩ : ∃ e, d = e + 2 := ⟨d - 2, by omega⟩
 have hi : UnL (d + 1) ((2, ⟨#[110, 101, 119]⟩) :: (1, ⟨#[66, 111, 120]⟩) :: (4, ⟨#[40]⟩) :: (T ++ [(4, ⟨#[41]⟩)])) := ⟨un_post (notin rfl) (post_of (pr_new (by decide) (by decide) (args1 (h2 d (by omega)).ex.t))), .one (notin rfl) (cons_head (noteq rfl))⟩
 have := post_dots (pr_new (d := d + 2) (s := ⟨#[66, 111, 120]⟩) (k := 2) (m := 4) (l := 4) (by decide) (by decide) (args1 hi.sum.ex.t)) (4, ⟨#[118]⟩) [(4, ⟨#[118]⟩)]
 refine ⟨un_post (notin rfl) ?_, .one (notin rfl) (cons_head (noteq rfl))⟩
 simpa [dotsT] using this
end Gr
end Go.Proofs.YtheigpiffdabnaaGreat
namespace Go.Proofs.YtheigpiffdabnaaGreat
open Go Go.RowKit
namespace Gr
open Lx
theorem words_plain : ∀ w ∈ words, ∀ x ∈ w, digB x = false := fun w hw x hx => by
 have h : (words.all fun w => w.all fun x => !digB x) = true := by decide
 have := List.all_eq_true.1 (List.all_eq_true.1 h w hw) x hx
 simpa using this
theorem marks_plain : ∀ v ∈ HdF ++ Vun, ∀ x ∈ v.data.toList, digB x = false := fun w hw x hx => by
 have h : ((HdF ++ Vun).all fun v => v.data.toList.all fun x => !digB x) = true := by decide
 have := List.all_eq_true.1 (List.all_eq_true.1 h w hw) x hx
 simpa using this
/-- a letter, and behind it a digit somewhere: a name -/
theorem name_num {c : UInt8} {l : Bs} (hc : digB c = false) (hr : ∀ x ∈ c :: l, runB x = true) {y : UInt8} (hy : y ∈ c :: l) (hd : digB y = true) : NameS (c :: l) := by
 refine ⟨by simp, hr, ?_, fun h => ?_⟩
 ·unfold kindRun
  have h1 : numL (c :: l) = false := by unfold numL; rw [List.all_cons, hc]; rfl
  have h2 : headDig (c :: l) = false := hc
  have h3 : resL (c :: l) = false := by
   unfold resL
   rw [decide_eq_false]
   intro h
   have := words_plain _ h y hy
   rw [hd] at this
   cases this
  rw [h1, h2, h3]
  rfl
 ·have := marks_plain _ h y (by rw [mk_data]; exact hy)
  rw [hd] at this
  cases this
/-- digits: a number -/
theorem num_digits {l : Bs} (h0 : l ≠ []) (hd : ∀ x ∈ l, digB x = true) (hn : l.length ≤ 18) : NumS l := by
 refine ⟨h0, fun x hx => ?_, ?_, fun h => ?_⟩
 ·have := hd x hx
  unfold digB at this
  unfold runB runI
  rw [this, Bool.or_true]
 ·unfold kindRun
  have h1 : numL l = true := by
   unfold numL
   rw [List.all_eq_true.2 hd]
   simpa using hn
  rw [h1]
  rfl
 ·cases l with
  | nil => exact h0 rfl
  | cons y l =>
   have := marks_plain _ h y (by rw [mk_data]; simp)
   rw [hd y (by simp)] at this
   cases this
theorem name_a : NameS [97] := ⟨by simp, by decide, rfl, notin rfl⟩
theorem name_b : NameS [98] := ⟨by simp, by decide, rfl, notin rfl⟩
theorem name_e : NameS [101] := ⟨by simp, by decide, rfl, notin rfl⟩
theorem name_c : NameS [99] := ⟨by simp, by decide, rfl, notin rfl⟩
theorem name_t : NameS [116] := ⟨by simp, by decide, rfl, notin rfl⟩
theorem name_show : NameS [115, 104, 111, 119] := ⟨by simp, by decide, rfl, notin rfl⟩
theorem name_P : NameS [80] := ⟨by simp, by decide, rfl, notin rfl⟩
theorem name_Box : NameS [66, 111, 120] := ⟨by simp, by decide, rfl, notin rfl⟩
end Gr
end Go.Proofs.YtheigpiffdabnaaGreat
