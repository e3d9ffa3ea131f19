/-
  PLAIN: token lists that are types, args and items; a text of items.
-/
import Derived.Test.YtheigpiffdabnaaGreatZG1
import Derived.Test.YtheigpiffdabnaaGreatZP2
import Derived.Test.YtheigpiffdabnaaGreatZL4
set_option linter.unusedSectionVars false
set_option linter.unusedSimpArgs false
set_option linter.unusedVariables false
namespace Go.Proofs.YtheigpiffdabnaaGreat
open Go Go.RowKit
namespace Gr
theorem isB_no {t u v : ByteArray} (e : t = u) (h : decide (u.data.toList ≠ v.data.toList) = true) : ¬ isB t v = true := by rw [e, isB_out (noteq h)]; decide
/-- a type -/
theorem ty_word {s : Bool} {d : Nat} {k : Int} {t : ByteArray} (ht : t ∈ W3) : Rd (fun r => typL r s (d + 1)) [] [(k, t)] := by
 have e : (fun r : Rdr => typL r s (d + 1)) = fun r => _ := funext fun r => typL_eq r s d
 rw [e]
 refine Rd.tok fun x h1 h2 => ?_
 have h3 : x.text = t := h2
 simp only [h3, hit_in ht, if_true]
 exact Rd.take fun y => rd_nd
theorem ty_self {d : Nat} {k : Int} : Rd (fun r => typL r true (d + 1)) [] [(k, selfB)] := by
 have e : (fun r : Rdr => typL r true (d + 1)) = fun r => _ := funext fun r => typL_eq r true d
 rw [e]
 refine Rd.tok fun x h1 h2 => ?_
 have h3 : x.text = selfB := h2
 have h4 : ¬ hit x.text W3 = true := by rw [h3, hit_out (notin rfl)]; decide
 simp only [if_neg h4, isB_in h3, and_self, if_true]
 exact Rd.take fun y => rd_nd
theorem ty_tail {d : Nat} {t : ByteArray} {F : List ByteArray} {U : List KT} (ht : t ∉ W3) (ht2 : t ≠ selfB) {s : Bool} (h : Rd (fun r => typTail r (typL r s d)) F ((1, t) :: U)) : Rd (fun r => typL r s (d + 1)) F ((1, t) :: U) := by
 have e : (fun r : Rdr => typL r s (d + 1)) = fun r => _ := funext fun r => typL_eq r s d
 rw [e]
 refine Rd.tok fun x h1 h2 => ?_
 have h3 : x.text = t := h2
 have h4 : ¬ hit x.text W3 = true := by rw [h3, hit_out ht]; decide
 have h5 : ¬ (s = true ∧ isB x.text selfB = true) := by rw [h3, isB_out ht2]; exact fun h => absurd h.2 (by decide)
 simp only [if_neg h4, if_neg h5]
 exact h
theorem ty_name {s : Bool} {d : Nat} {t : ByteArray} (ht : t ∉ W3) (ht2 : t ≠ selfB) : Rd (fun r => typL r s (d + 1)) [⟨#[60]⟩] [(1, t)] := by
 refine ty_tail ht ht2 ?_
 have e : (fun r : Rdr => typTail r (typL r s d)) = fun r => _ := funext fun r => typTail_eq r (typL r s d)
 rw [e]
 exact Rd.here fun a => Rd.name fun nm => Rd.took_end rd_nd
theorem rd_list {part : Rdr → PM Tree} {Q : List KT → Prop} {F : List ByteArray} {sg : ByteArray} (hQ : ∀ T, Q T → Rd part F T) (hF : sg ∉ F) {T : List KT} (h : Chn Q [sg] T) (h0 : T ≠ []) : Rd (fun r => listP r sg (part r) (r.L.length + 1)) (F ++ [sg]) T := fun r i hT hG => by
 cases T with
 | nil => exact absurd rfl h0
 | cons x T =>
  have h1 := hT.1.1
  have := hT.le (Nat.le_of_lt h1)
  exact rd_listP hQ hF h r _ i (by omega) hT hG
theorem ty_app {s : Bool} {d : Nat} {t : ByteArray} {k l : Int} {F : List ByteArray} {U : List KT} (ht : t ∉ W3) (ht2 : t ≠ selfB) (h : Rd (fun r => typL r s d) F U) (h0 : U ≠ []) (hF : ⟨#[44]⟩ ∉ F) (hF2 : ⟨#[62]⟩ ∉ F) : Rd (fun r => typL r s (d + 1)) [] ((1, t) :: (k, ⟨#[60]⟩) :: (U ++ [(l, ⟨#[62]⟩)])) := by
 refine ty_tail ht ht2 ?_
 have e : (fun r : Rdr => typTail r (typL r s d)) = fun r => _ := funext fun r => typTail_eq r (typL r s d)
 rw [e]
 refine Rd.here fun a => Rd.name fun nm => Rd.took_in ?_
 refine Rd.bind (rd_list (part := fun r => typL r s d) (Q := fun T => T = U) (fun T e => e ▸ h) hF (.one rfl) h0) ?_ fun ts => Rd.need rd_nd
 simp only [List.mem_append, not_or]
 exact ⟨hF2, notin rfl⟩
/-- an arg -/
theorem rd_arg {P : Rdr → PM Tree} {F : List ByteArray} {U : List KT} {s : ByteArray} {k : Int} (h : Rd P F U) : Rd (fun r => argP r (P r)) F ((1, s) :: (k, ⟨#[58]⟩) :: U) := by
 have e : (fun r : Rdr => argP r (P r)) = fun r => _ := funext fun r => argP_eq r (P r)
 rw [e]
 exact Rd.here fun a => Rd.name fun nm => Rd.need ((Rd.last (G := []) h fun t => rd_nd).mono fun v hv => by simpa using hv)
theorem rd_nameP {s : ByteArray} : Rd (fun r => nameP r) [] [(1, s)] := by
 have e : (fun r : Rdr => nameP r) = fun r => _ := funext fun r => nameP_eq r
 rw [e]
 exact Rd.here fun a => Rd.name fun nm => rd_nd
/-- args between two marks -/
theorem rd_args {part : Rdr → PM Tree} {Q : List KT → Prop} {F : List ByteArray} {be en : ByteArray} {k l : Int} {T : List KT} (hQ : ∀ T, Q T → Rd part F T) (hF : ⟨#[44]⟩ ∉ F) (he : en ∉ F ++ [⟨#[44]⟩]) (h : T = [] ∨ ∃ x U, T = x :: U ∧ x.2 ≠ en ∧ Chn Q [⟨#[44]⟩] T) : Rd (fun r => argsP r be en (part r)) [] ((k, be) :: (T ++ [(l, en)])) := by
 have e : (fun r : Rdr => argsP r be en (part r)) = fun r => _ := funext fun r => argsP_eq r be en (part r)
 rw [e]
 refine Rd.need (Rd.here fun a => ?_)
 refine (Rd.last (G := []) ?_ fun ts => rd_nd).mono (F := [] ++ []) fun v hv => by simp at hv
 rcases h with rfl | ⟨x, U, rfl, hx, h⟩
 ·exact rd_upTo0
 ·exact rd_upTo hQ hF h hx he
theorem rd_param {s : ByteArray} : Rd (fun r => paramP r) [⟨#[58]⟩] [(1, s)] := by
 have e : (fun r : Rdr => paramP r) = fun r => _ := funext fun r => paramP_eq r
 rw [e]
 exact Rd.here fun a => Rd.name fun nm => Rd.took_end rd_nd
theorem rd_param2 {s t : ByteArray} {k : Int} : Rd (fun r => paramP r) [] [(1, s), (k, ⟨#[58]⟩), (1, t)] := by
 have e : (fun r : Rdr => paramP r) = fun r => _ := funext fun r => paramP_eq r
 rw [e]
 exact Rd.here fun a => Rd.name fun nm => Rd.took_in ((Rd.last (G := []) rd_nameP fun t => rd_nd).mono fun v hv => by simp at hv)
theorem rd_params0 : Rd (fun r => paramsP r) [⟨#[60]⟩] [] := by
 have e : (fun r : Rdr => paramsP r) = fun r => _ := funext fun r => paramsP_eq r
 rw [e]
 exact Rd.here fun a => Rd.took_end rd_nd
theorem rd_params1 {F : List ByteArray} {U : List KT} {k l : Int} (h : Rd (fun r => paramP r) F U) (h0 : U ≠ []) (hF : ⟨#[44]⟩ ∉ F) (hF2 : ⟨#[62]⟩ ∉ F) : Rd (fun r => paramsP r) [] ((k, ⟨#[60]⟩) :: (U ++ [(l, ⟨#[62]⟩)])) := by
 have e : (fun r : Rdr => paramsP r) = fun r => _ := funext fun r => paramsP_eq r
 rw [e]
 refine Rd.here fun a => Rd.took_in ?_
 refine Rd.bind (rd_list (part := fun r => paramP r) (Q := fun T => T = U) (fun T e => e ▸ h) hF (.one rfl) h0) ?_ fun ts => Rd.need rd_nd
 simp only [List.mem_append, not_or]
 exact ⟨hF2, notin rfl⟩
theorem rd_noParams : Rd (fun r => noParamsP r) [] [] := fun r i _ _ => ⟨_, rfl⟩
/-- what stands behind the arrow -/
theorem rd_result {P : Rdr → PM Tree} {F : List ByteArray} {U : List KT} {k : Int} (h : Rd P F U) : Rd (fun r => resultP r (P r)) F ((k, ⟨#[45, 62]⟩) :: U) := by
 have e : (fun r : Rdr => resultP r (P r)) = fun r => _ := funext fun r => (resultR_eq r (P r)).symm
 rw [e]
 exact Rd.took_in h
/-- an arg list and its tokens -/
structure ArgsL (P : Rdr → PM Tree) (en : ByteArray) (T : List KT) : Prop where
 rd : ∀ (be : ByteArray) (k l : Int), Rd (fun r => argsP r be en (argP r (P r))) [] ((k, be) :: (T ++ [(l, en)]))
theorem rd_function {Ps Ty Bk : Rdr → PM Tree} {F G : List ByteArray} {k a b c : Int} {nm : ByteArray} {P A R : List KT} {x : KT} {U : List KT} (hP : Rd Ps F P) (hF : ⟨#[40]⟩ ∉ F) (hA : ArgsL Ty ⟨#[41]⟩ A) (hR : Rd Ty G R) (hG : x.2 ∉ G) (hB : Rd Bk [] (x :: U)) :
  Rd (fun r => functionM r (Ps r) (Ty r) (Bk r)) [] ((k, ⟨#[102, 110]⟩) :: (1, nm) :: (P ++ (a, ⟨#[40]⟩) :: ((A ++ [(b, ⟨#[41]⟩)]) ++ (c, ⟨#[45, 62]⟩) :: (R ++ x :: U)))) := by
 refine Rd.here fun p => Rd.need (Rd.name fun n => ?_)
 refine Rd.bind hP hF fun ps => ?_
 refine Rd.bind (T := (a, ⟨#[40]⟩) :: (A ++ [(b, ⟨#[41]⟩)])) (x := (c, ⟨#[45, 62]⟩)) (U := R ++ x :: U) (hA.rd _ _ _) (by simp) fun q => ?_
 refine Rd.bind (T := (c, ⟨#[45, 62]⟩) :: R) (x := x) (U := U) (rd_result hR) hG fun o => ?_
 exact (Rd.last (G := []) hB fun n => rd_nd).mono fun v hv => by simp at hv
/-- an item -/
structure ItL (T : List KT) : Prop where
 rd : Rd itemT [] T
 ne : ∃ x U, T = x :: U ∧ x.1 ≠ 0
theorem it_use {k l : Int} {s : ByteArray} (hk : k ≠ 0) : ItL ([(k, ⟨#[117, 115, 101]⟩), (1, s), (l, ⟨#[59]⟩)]) := by
 refine ⟨?_, _, _, rfl, hk⟩
 show Rd (fun r => itemM r (typL r false 60) (typL r true 60) (subL r 60).E (subL r 60).B) [] _
 refine Rd.tok fun x h1 h2 => ?_
 have h3 : x.text = ⟨#[117, 115, 101]⟩ := h2
 simp only [if_pos (isB_in h3)]
 have e : (fun r : Rdr => useP r) = fun r => _ := funext fun r => (useR_eq r).symm
 rw [e]
 exact Rd.here fun a => Rd.need (Rd.name fun nm => Rd.need rd_nd)
theorem it_pub {k l m : Int} {s : ByteArray} (hk : k ≠ 0) : ItL ([(k, ⟨#[112, 117, 98]⟩), (m, ⟨#[117, 115, 101]⟩), (1, s), (l, ⟨#[59]⟩)]) := by
 refine ⟨?_, _, _, rfl, hk⟩
 show Rd (fun r => itemM r (typL r false 60) (typL r true 60) (subL r 60).E (subL r 60).B) [] _
 refine Rd.tok fun x h1 h2 => ?_
 have h3 : x.text = ⟨#[112, 117, 98]⟩ := h2
 simp only [if_neg (isB_no (v := ⟨#[117, 115, 101]⟩) h3 rfl), if_pos (isB_in h3)]
 have e : (fun r : Rdr => pubUseP r) = fun r => _ := funext fun r => (pubR_eq r).symm
 rw [e]
 exact Rd.here fun a => Rd.need (Rd.need (Rd.name fun nm => Rd.need rd_nd))
theorem it_const {k l m p : Int} {s : ByteArray} {R T : List KT} {F : List ByteArray} (hk : k ≠ 0) (hR : Rd (fun r => typL r false 60) F R) (hF : ⟨#[61]⟩ ∉ F) (hT : ExT 60 T) : ItL ((k, ⟨#[99, 111, 110, 115, 116]⟩) :: (1, s) :: (l, ⟨#[58]⟩) :: (R ++ (m, ⟨#[61]⟩) :: (T ++ [(p, ⟨#[59]⟩)]))) := by
 refine ⟨?_, _, _, rfl, hk⟩
 show Rd (fun r => itemM r (typL r false 60) (typL r true 60) (subL r 60).E (subL r 60).B) [] _
 refine Rd.tok fun x h1 h2 => ?_
 have h3 : x.text = ⟨#[99, 111, 110, 115, 116]⟩ := h2
 simp only [if_neg (isB_no (v := ⟨#[117, 115, 101]⟩) h3 rfl), if_neg (isB_no (v := ⟨#[112, 117, 98]⟩) h3 rfl), if_pos (isB_in h3)]
 exact Rd.here fun a => Rd.need (Rd.name fun nm => Rd.need (Rd.bind hR hF fun o => Rd.need (Rd.bind hT.rd (notin rfl) fun v => Rd.need rd_nd)))
theorem it_fn {k a b c : Int} {nm : ByteArray} {F G : List ByteArray} {P A R : List KT} {y : KT} {U : List KT} (hk : k ≠ 0) (hP : Rd (fun r => paramsP r) F P) (hF : ⟨#[40]⟩ ∉ F) (hA : ArgsL (fun r => typL r false 60) ⟨#[41]⟩ A) (hR : Rd (fun r => typL r false 60) G R) (hG : y.2 ∉ G) (hB : Rd (BB 60) [] (y :: U)) : ItL ((k, ⟨#[102, 110]⟩) :: (1, nm) :: (P ++ (a, ⟨#[40]⟩) :: ((A ++ [(b, ⟨#[41]⟩)]) ++ (c, ⟨#[45, 62]⟩) :: (R ++ y :: U)))) := by
 refine ⟨?_, _, _, rfl, hk⟩
 show Rd (fun r => itemM r (typL r false 60) (typL r true 60) (subL r 60).E (subL r 60).B) [] _
 refine Rd.tok fun x h1 h2 => ?_
 have h3 : x.text = ⟨#[102, 110]⟩ := h2
 simp only [if_neg (isB_no (v := ⟨#[117, 115, 101]⟩) h3 rfl), if_neg (isB_no (v := ⟨#[112, 117, 98]⟩) h3 rfl), if_neg (isB_no (v := ⟨#[99, 111, 110, 115, 116]⟩) h3 rfl), if_pos (isB_in h3)]
 exact rd_function hP hF hA hR hG hB
theorem it_type {k a b : Int} {nm : ByteArray} {F : List ByteArray} {P A : List KT} (hk : k ≠ 0) (hP : Rd (fun r => paramsP r) F P) (hF : ⟨#[123]⟩ ∉ F) (hA : ArgsL (fun r => typL r false 60) ⟨#[125]⟩ A) : ItL ((k, ⟨#[116, 121, 112, 101]⟩) :: (1, nm) :: (P ++ (a, ⟨#[123]⟩) :: (A ++ [(b, ⟨#[125]⟩)]))) := by
 refine ⟨?_, _, _, rfl, hk⟩
 show Rd (fun r => itemM r (typL r false 60) (typL r true 60) (subL r 60).E (subL r 60).B) [] _
 refine Rd.tok fun x h1 h2 => ?_
 have h3 : x.text = ⟨#[116, 121, 112, 101]⟩ := h2
 simp only [if_neg (isB_no (v := ⟨#[117, 115, 101]⟩) h3 rfl), if_neg (isB_no (v := ⟨#[112, 117, 98]⟩) h3 rfl), if_neg (isB_no (v := ⟨#[99, 111, 110, 115, 116]⟩) h3 rfl), if_neg (isB_no (v := ⟨#[102, 110]⟩) h3 rfl), if_pos (isB_in h3)]
 refine Rd.here fun p => Rd.need (Rd.name fun n => ?_)
 refine Rd.bind hP hF fun ps => ?_
 exact (Rd.last (G := []) (hA.rd _ _ _) fun n => rd_nd).mono fun v hv => by simp at hv
theorem it_macro {k a b c d : Int} {nm s : ByteArray} {T : List KT} (hk : k ≠ 0) (hs : s ≠ ⟨#[41]⟩) (hT : ExT 60 T) : ItL ((k, ⟨#[109, 97, 99, 114, 111]⟩) :: (1, nm) :: ((a, ⟨#[40]⟩) :: ([(1, s)] ++ [(b, ⟨#[41]⟩)])) ++ (c, ⟨#[61]⟩) :: (T ++ [(d, ⟨#[59]⟩)])) := by
 refine ⟨?_, _, _, rfl, hk⟩
 show Rd (fun r => itemM r (typL r false 60) (typL r true 60) (subL r 60).E (subL r 60).B) [] _
 refine Rd.tok fun x h1 h2 => ?_
 have h3 : x.text = ⟨#[109, 97, 99, 114, 111]⟩ := h2
 simp only [if_neg (isB_no (v := ⟨#[117, 115, 101]⟩) h3 rfl), if_neg (isB_no (v := ⟨#[112, 117, 98]⟩) h3 rfl), if_neg (isB_no (v := ⟨#[99, 111, 110, 115, 116]⟩) h3 rfl), if_neg (isB_no (v := ⟨#[102, 110]⟩) h3 rfl), if_neg (isB_no (v := ⟨#[116, 121, 112, 101]⟩) h3 rfl), if_neg (isB_no (v := ⟨#[116, 114, 97, 105, 116]⟩) h3 rfl), if_neg (isB_no (v := ⟨#[105, 109, 112, 108]⟩) h3 rfl), if_pos (isB_in h3)]
 refine Rd.here fun p => Rd.need (Rd.name fun n => ?_)
 refine Rd.bind (T := (a, ⟨#[40]⟩) :: ([(1, s)] ++ [(b, ⟨#[41]⟩)])) (rd_args (part := fun r => nameP r) (Q := fun T => T = [(1, s)]) (F := []) (fun T e => e ▸ rd_nameP) (by simp) (notin rfl) (.inr ⟨_, _, rfl, hs, .one rfl⟩)) (by simp) fun q => ?_
 exact Rd.need (Rd.bind hT.rd (notin rfl) fun v => Rd.need rd_nd)
end Gr
end Go.Proofs.YtheigpiffdabnaaGreat
namespace Go.Proofs.YtheigpiffdabnaaGreat
open Go Go.RowKit
namespace Gr
/-- parts up to a mark -/
inductive AllL (Q : List KT → Prop) (en : ByteArray) : List KT → Prop
 | fin (k : Int) : AllL Q en [(k, en)]
 | cons {x : KT} {T U : List KT} (h : Q (x :: T)) (hx : x.2 ≠ en) (hU : AllL Q en U) : AllL Q en (x :: T ++ U)
theorem allM_succ (r : Rdr) (en : ByteArray) (part : PM Tree) (f : Nat) (l : List Tree) : allM r en part (f + 1) l = bindM (tookM r en) fun b => match b with
  | true => pureM l
  | false => bindM part fun t => allM r en part f (l ++ [t]) := rfl
theorem rd_allM {part : Rdr → PM Tree} {Q : List KT → Prop} {en : ByteArray} (hQ : ∀ T, Q T → Rd part [] T) {T : List KT} (h : AllL Q en T) : ∀ (r : Rdr) (f i : Nat) (l : List Tree), T.length < f → LiesT r i T → ∃ l', allM r en (part r) f l i = .ok (l', i + T.length) := by
 induction h with
 | fin k =>
  intro r f i l hf hT
  obtain ⟨f, rfl⟩ : ∃ f', f = f' + 1 := ⟨f - 1, by omega⟩
  refine ⟨l, ?_⟩
  rw [allM_succ, bindM_step (x := true) (j := i + 1) (by unfold tookM; rw [if_pos (mark_in hT.1.2.2)])]
  rfl
 | @cons x T U h hx hU ih =>
  intro r f i l hf hT
  obtain ⟨f, rfl⟩ : ∃ f', f = f' + 1 := ⟨f - 1, by omega⟩
  obtain ⟨h1, h2⟩ := hT.app
  obtain ⟨t, ht⟩ := hQ _ h r i h1 (by simp)
  obtain ⟨l', hl⟩ := ih r f (i + (x :: T).length) (l ++ [t]) (by simp at hf; omega) h2
  refine ⟨l', ?_⟩
  rw [allM_succ, bindM_step (x := false) (j := i) (by unfold tookM; rw [if_neg (by rw [mark_out (by rw [h1.1.2.2]; exact hx)]; decide)])]
  refine (bindM_step ht).trans ?_
  rw [List.length_append, ← Nat.add_assoc]
  exact hl
theorem rd_allP {part : Rdr → PM Tree} {Q : List KT → Prop} {en : ByteArray} (hQ : ∀ T, Q T → Rd part [] T) {T : List KT} (h : AllL Q en T) : Rd (fun r => allP r en (part r)) [] T := fun r i hT hG => by
 refine rd_allM hQ h r (r.L.length + 1) i [] ?_ hT
 cases T with
 | nil => exact Nat.succ_pos _
 | cons x T =>
  have h1 := hT.1.1
  have := hT.le (Nat.le_of_lt h1)
  omega
theorem rd_supers0 : Rd (fun r => supersP r) [⟨#[58]⟩] [] := by
 have e : (fun r : Rdr => supersP r) = fun r => _ := funext fun r => supersP_eq r
 rw [e]
 exact Rd.here fun a => Rd.took_end rd_nd
theorem rd_sig {Ty : Rdr → PM Tree} {G : List ByteArray} {k a b c d : Int} {nm : ByteArray} {A R : List KT} (hA : ArgsL Ty ⟨#[41]⟩ A) (hR : Rd Ty G R) (hG : ⟨#[59]⟩ ∉ G) :
  Rd (fun r => sigM r (Ty r)) [] ((k, ⟨#[102, 110]⟩) :: (1, nm) :: ((a, ⟨#[40]⟩) :: (A ++ [(b, ⟨#[41]⟩)]) ++ (c, ⟨#[45, 62]⟩) :: (R ++ [(d, ⟨#[59]⟩)]))) := by
 refine Rd.here fun p => Rd.need (Rd.name fun n => ?_)
 refine Rd.bind (T := (a, ⟨#[40]⟩) :: (A ++ [(b, ⟨#[41]⟩)])) (x := (c, ⟨#[45, 62]⟩)) (U := R ++ [(d, ⟨#[59]⟩)]) (hA.rd _ _ _) (by simp) fun q => ?_
 exact Rd.bind (T := (c, ⟨#[45, 62]⟩) :: R) (x := (d, ⟨#[59]⟩)) (U := []) (rd_result hR) hG fun o => Rd.need rd_nd
theorem it_trait {k a : Int} {nm : ByteArray} {T : List KT} (hk : k ≠ 0) (hT : AllL (Rd (fun r => sigM r (typL r true 60)) []) ⟨#[125]⟩ T) : ItL ((k, ⟨#[116, 114, 97, 105, 116]⟩) :: (1, nm) :: (a, ⟨#[123]⟩) :: T) := by
 refine ⟨?_, _, _, rfl, hk⟩
 show Rd (fun r => itemM r (typL r false 60) (typL r true 60) (subL r 60).E (subL r 60).B) [] _
 refine Rd.tok fun x h1 h2 => ?_
 have h3 : x.text = ⟨#[116, 114, 97, 105, 116]⟩ := h2
 simp only [if_neg (isB_no (v := ⟨#[117, 115, 101]⟩) h3 rfl), if_neg (isB_no (v := ⟨#[112, 117, 98]⟩) h3 rfl), if_neg (isB_no (v := ⟨#[99, 111, 110, 115, 116]⟩) h3 rfl), if_neg (isB_no (v := ⟨#[102, 110]⟩) h3 rfl), if_neg (isB_no (v := ⟨#[116, 121, 112, 101]⟩) h3 rfl), if_pos (isB_in h3)]
 refine Rd.here fun p => Rd.need (Rd.name fun n => ?_)
 refine Rd.bind (T := []) rd_supers0 (notin rfl) fun u => Rd.need ?_
 exact (Rd.last (G := []) (rd_allP (fun T h => h) hT) fun n => rd_nd).mono fun v hv => by simp at hv
theorem it_impl {k a b : Int} {nm : ByteArray} {P R T : List KT} {F G : List ByteArray} (hk : k ≠ 0) (hP : Rd (fun r => paramsP r) F P) (hF : nm ∉ F) (hR : Rd (fun r => typL r false 60) G R) (hG : ⟨#[123]⟩ ∉ G) (hT : AllL (Rd (fun r => functionM r (noParamsP r) (typL r false 60) (subL r 60).B) []) ⟨#[125]⟩ T) : ItL ((k, ⟨#[105, 109, 112, 108]⟩) :: (P ++ (1, nm) :: (a, ⟨#[102, 111, 114]⟩) :: (R ++ (b, ⟨#[123]⟩) :: T))) := by
 refine ⟨?_, _, _, rfl, hk⟩
 show Rd (fun r => itemM r (typL r false 60) (typL r true 60) (subL r 60).E (subL r 60).B) [] _
 refine Rd.tok fun x h1 h2 => ?_
 have h3 : x.text = ⟨#[105, 109, 112, 108]⟩ := h2
 simp only [if_neg (isB_no (v := ⟨#[117, 115, 101]⟩) h3 rfl), if_neg (isB_no (v := ⟨#[112, 117, 98]⟩) h3 rfl), if_neg (isB_no (v := ⟨#[99, 111, 110, 115, 116]⟩) h3 rfl), if_neg (isB_no (v := ⟨#[102, 110]⟩) h3 rfl), if_neg (isB_no (v := ⟨#[116, 121, 112, 101]⟩) h3 rfl), if_neg (isB_no (v := ⟨#[116, 114, 97, 105, 116]⟩) h3 rfl), if_pos (isB_in h3)]
 refine Rd.here fun p => Rd.need ?_
 refine Rd.bind hP hF fun ps => Rd.name fun n => Rd.need ?_
 refine Rd.bind hR hG fun t => Rd.need ?_
 exact (Rd.last (G := []) (rd_allP (fun T h => h) hT) fun n => rd_nd).mono fun v hv => by simp at hv
/-- a text of items -/
inductive ItemsL : List KT → Prop
 | nil : ItemsL []
 | cons {T U : List KT} (h : ItL T) (hU : ItemsL U) : ItemsL (T ++ U)
theorem ItemsL.app {T U : List KT} (h : ItemsL T) (hU : ItemsL U) : ItemsL (T ++ U) := by
 induction h with
 | nil => exact hU
 | cons h _ ih => rw [List.append_assoc]; exact .cons h ih
theorem ItL.items {T : List KT} (h : ItL T) : ItemsL T := by have := ItemsL.cons h .nil; rwa [List.append_nil] at this
theorem rd_mod {T : List KT} (h : ItemsL T) : ∀ (L : List Lx.Tok) (f i : Nat) (ts : List Tree) (es : List Int), T.length < f → LiesT (core L) i T → (L.getD (i + T.length) tok0).kind = 0 → ∃ ts', modM L (itemT (core L)) f i ts es = some (ts', es) := by
 induction h with
 | nil =>
  intro L f i ts es hf hT h0
  obtain ⟨f, rfl⟩ : ∃ f', f = f' + 1 := ⟨f - 1, by omega⟩
  refine ⟨ts, ?_⟩
  unfold modM
  rw [if_pos (by simpa using h0)]
 | @cons T U h hU ih =>
  intro L f i ts es hf hT h0
  obtain ⟨f, rfl⟩ : ∃ f', f = f' + 1 := ⟨f - 1, by omega⟩
  obtain ⟨h1, h2⟩ := hT.app
  obtain ⟨t, ht⟩ := h.rd (core L) i h1 (by simp)
  obtain ⟨x, V, rfl, hx⟩ := h.ne
  have hk : ¬ (L.getD i tok0).kind = 0 := by
   have : (L.getD i tok0).kind = x.1 := h1.1.2.1
   rw [this]; exact hx
  rw [List.length_append, ← Nat.add_assoc] at h0
  obtain ⟨ts', h3⟩ := ih L f (i + (x :: V).length) (ts ++ [t]) es (by simp at hf; omega) h2 h0
  refine ⟨ts', ?_⟩
  unfold modM
  rw [if_neg hk, ht]
  exact h3
/-- the tokens of a text, but for their places -/
def kt (t : Lx.Tok) : KT := (t.kind, t.text)
theorem liesT_of {L : List Lx.Tok} {E : Lx.Tok} : ∀ (L1 L0 : List Lx.Tok), L = L0 ++ L1 ++ [E] → LiesT (core L) L0.length (L1.map kt)
 | [], L0, h => trivial
 | t :: L1, L0, h => by
  have h2 : L = L0 ++ t :: (L1 ++ [E]) := by rw [h]; simp
  have e : L.getD L0.length tok0 = t := by rw [h2, List.getD_eq_getElem?_getD]; simp
  refine ⟨⟨?_, ?_, ?_⟩, ?_⟩
  ·show L0.length < L.length
   rw [h2]; simp
  ·show (L.getD L0.length tok0).kind = t.kind
   rw [e]
  ·show (L.getD L0.length tok0).text = t.text
   rw [e]
  ·have := liesT_of (L := L) (E := E) L1 (L0 ++ [t]) (by rw [h]; simp)
   rw [List.length_append, List.length_singleton] at this
   exact this
/-- a text whose tokens are those of items has no errors -/
theorem mod_items {L L1 : List Lx.Tok} {E : Lx.Tok} (hL : L = L1 ++ [E]) (hE : E.kind = 0) (h : ItemsL (L1.map kt)) : ∃ ts, modV L (itemT (core L)) = some (ts, []) := by
 have hT := liesT_of (L := L) (E := E) L1 [] (by simpa using hL)
 have hn : L.length = L1.length + 1 := by rw [hL]; simp
 obtain ⟨ts, ht⟩ := rd_mod h L (L.length + 1) 0 [] [] (by simp; omega) hT (by
  have : L.getD (0 + (L1.map kt).length) tok0 = E := by rw [hL, List.getD_eq_getElem?_getD]; simp
  rw [this, hE])
 refine ⟨ts, ?_⟩
 unfold modV
 rw [if_neg (by omega)]
 exact ht
end Gr
end Go.Proofs.YtheigpiffdabnaaGreat
