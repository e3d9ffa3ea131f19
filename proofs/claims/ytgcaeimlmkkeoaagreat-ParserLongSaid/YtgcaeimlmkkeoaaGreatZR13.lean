/-
  PLAIN: the items as the reference reads them are the program's.
-/
import Derived.Test.YtgcaeimlmkkeoaaGreatZR10
import Derived.Test.YtgcaeimlmkkeoaaGreatZA11
set_option linter.unusedSimpArgs false
set_option linter.unusedVariables false
namespace Go.Proofs.YtgcaeimlmkkeoaaGreat
open Go Go.RowKit
/-- names with a mark between them, and what follows -/
def namesK (r : Rdr) (sg : ByteArray) (Fin : List Tree → PM Tree) : Nat → List Tree → PM Tree
 | 0, _ => failM
 | f + 1, ts => bindM (hereM r) fun a1 => bindM (nameM r) fun nm => bindM (tookM r sg) fun b => match b with
  | true => namesK r sg Fin f (ts ++ [.mk 22 nm a1 []])
  | false => Fin (ts ++ [.mk 22 nm a1 []])
def namesN (r : Rdr) (sg : ByteArray) (Fin : List Tree → PM Tree) (f : Nat) (ts : List Tree) : PM Tree := bindM (hereM r) fun a1 => bindM (nameM r) fun nm => bindM (tookM r sg) fun b => match b with
  | true => namesK r sg Fin f (ts ++ [.mk 22 nm a1 []])
  | false => Fin (ts ++ [.mk 22 nm a1 []])
def namesT (r : Rdr) (sg : ByteArray) (Fin : List Tree → PM Tree) (f : Nat) (ts : List Tree) : PM Tree := bindM (tookM r sg) fun b => match b with
  | true => namesK r sg Fin f ts
  | false => Fin ts
theorem namesK_same (r : Rdr) (sg : ByteArray) (Fin : List Tree → PM Tree) : ∀ (f : Nat) (ts : List Tree) (i : Nat), namesK r sg Fin f ts i = match listP r sg (nameP r) f i with
  | .error k => .error k
  | .ok (us, j) => Fin (ts ++ us) j
 | 0, ts, i => rfl
 | f + 1, ts, i => by
  unfold namesK
  have h1 : hereM r i = .ok ((r.L.getD i tok0).at_, i) := rfl
  rw [at_ok h1]
  by_cases hk : (r.L.getD i tok0).kind = 1
  ·rw [at_ok (nm_yes hk)]
   have hp : nameP r i = .ok (.mk 22 (r.L.getD i tok0).text (r.L.getD i tok0).at_ [], i + 1) := by unfold nameP; rw [if_pos hk]
   unfold listP
   rw [hp]
   dsimp only
   by_cases hm : isMark r (i + 1) sg = true
   ·rw [at_ok (tk_yes hm), if_pos hm]
    dsimp only
    rw [namesK_same r sg Fin f _ (i + 1 + 1)]
    cases listP r sg (nameP r) f (i + 1 + 1) with
    | error k => rfl
    | ok y => obtain ⟨us, m⟩ := y; simp
   ·rw [at_ok (tk_no hm), if_neg hm]
  ·rw [at_err (nm_no hk)]
   have hp : nameP r i = .error i := by unfold nameP; rw [if_neg hk]
   rw [listP_err hp]
/-- supers, and what follows -/
def supK (r : Rdr) (K : Tree → PM Tree) (a : Int) : Nat → List Tree → PM Tree := namesK r ⟨#[43]⟩ fun ts => K (.mk 14 ⟨#[]⟩ a ts)
def supR (r : Rdr) (K : Tree → PM Tree) : PM Tree := bindM (hereM r) fun a2 => bindM (tookM r ⟨#[58]⟩) fun b => match b with
 | false => K (.mk 14 ⟨#[]⟩ a2 [])
 | true => bindM (hereM r) fun a3 => supK r K a3 (r.L.length + 1) []
theorem supR_eq (r : Rdr) (K : Tree → PM Tree) : supR r K = bindM (supersP r) K := by
 funext i
 unfold supR
 have h1 : ∀ j, hereM r j = .ok ((r.L.getD j tok0).at_, j) := fun j => rfl
 rw [at_ok (h1 i)]
 by_cases hm : isMark r i ⟨#[58]⟩ = true
 ·rw [at_ok (tk_yes hm)]
  dsimp only
  rw [at_ok (h1 (i + 1))]
  unfold supK
  rw [namesK_same]
  cases hl : listP r ⟨#[43]⟩ (nameP r) (r.L.length + 1) (i + 1) with
  | error k =>
   have hs : supersP r i = .error k := by unfold supersP; rw [if_pos hm, hl]
   rw [at_err hs]
  | ok y =>
   obtain ⟨us, m⟩ := y
   have hs : supersP r i = .ok (.mk 14 ⟨#[]⟩ (r.L.getD (i + 1) tok0).at_ us, m) := by unfold supersP; rw [if_pos hm, hl]
   rw [at_ok hs]
   simp
 ·rw [at_ok (tk_no hm)]
  have hs : supersP r i = .ok (.mk 14 ⟨#[]⟩ (r.L.getD i tok0).at_ [], i) := by unfold supersP; rw [if_neg hm]
  rw [at_ok hs]
/-- a macro's parameters, and what follows -/
def macFin (r : Rdr) (K : Tree → PM Tree) (a : Int) (ts : List Tree) : PM Tree := bindM (needM r ⟨#[41]⟩) fun _ => K (.mk 12 ⟨#[]⟩ a ts)
def macK (r : Rdr) (K : Tree → PM Tree) (a : Int) : Nat → List Tree → PM Tree := namesK r ⟨#[44]⟩ (macFin r K a)
def macA (r : Rdr) (K : Tree → PM Tree) : PM Tree := bindM (hereM r) fun a => bindM (isM r ⟨#[41]⟩) fun b => match b with
 | true => macFin r K a []
 | false => macK r K a (r.L.length + 1) []
theorem macA_eq (r : Rdr) (K : Tree → PM Tree) : (bindM (needM r ⟨#[40]⟩) fun _ => macA r K) = bindM (argsP r ⟨#[40]⟩ ⟨#[41]⟩ (nameP r)) K := by
 funext i
 by_cases hb : isMark r i ⟨#[40]⟩ = true
 ·rw [at_ok (nd_yes hb)]
  unfold macA
  have h1 : hereM r (i + 1) = .ok ((r.L.getD (i + 1) tok0).at_, i + 1) := rfl
  have h2 : isM r ⟨#[41]⟩ (i + 1) = .ok (isMark r (i + 1) ⟨#[41]⟩, i + 1) := rfl
  rw [at_ok h1, at_ok h2]
  by_cases he : isMark r (i + 1) ⟨#[41]⟩ = true
  ·rw [he]
   dsimp only
   unfold macFin
   rw [at_ok (nd_yes he)]
   have hs : argsP r ⟨#[40]⟩ ⟨#[41]⟩ (nameP r) i = .ok (.mk 12 ⟨#[]⟩ (r.L.getD (i + 1) tok0).at_ [], i + 1 + 1) := by unfold argsP upToP; rw [if_pos hb, if_pos he]
   rw [at_ok hs]
  ·rw [eq_false_of_ne_true he]
   dsimp only
   unfold macK
   rw [namesK_same]
   cases hl : listP r ⟨#[44]⟩ (nameP r) (r.L.length + 1) (i + 1) with
   | error k =>
    have hs : argsP r ⟨#[40]⟩ ⟨#[41]⟩ (nameP r) i = .error k := by unfold argsP upToP; rw [if_pos hb, if_neg he, hl]
    rw [at_err hs]
   | ok y =>
    obtain ⟨us, m⟩ := y
    dsimp only
    unfold macFin
    by_cases hm : isMark r m ⟨#[41]⟩ = true
    ·have hs : argsP r ⟨#[40]⟩ ⟨#[41]⟩ (nameP r) i = .ok (.mk 12 ⟨#[]⟩ (r.L.getD (i + 1) tok0).at_ us, m + 1) := by unfold argsP upToP; rw [if_pos hb, if_neg he, hl]; dsimp only; rw [if_pos hm]
     rw [at_ok hs, at_ok (nd_yes hm)]
     simp
    ·have hs : argsP r ⟨#[40]⟩ ⟨#[41]⟩ (nameP r) i = .error m := by unfold argsP upToP; rw [if_pos hb, if_neg he, hl]; dsimp only; rw [if_neg hm]
     rw [at_err hs, at_err (nd_no hm)]
 ·rw [at_err (nd_no hb)]
  have hs : argsP r ⟨#[40]⟩ ⟨#[41]⟩ (nameP r) i = .error i := by unfold argsP; rw [if_neg hb]
  rw [at_err hs]
/-- parts up to a mark, and what follows -/
def allK (r : Rdr) (en : ByteArray) (body : (Tree → PM Tree) → PM Tree) (K : List Tree → PM Tree) : Nat → List Tree → PM Tree
 | 0, _ => failM
 | f + 1, l => bindM (tookM r en) fun b => match b with
  | true => K l
  | false => body fun t => allK r en body K f (l ++ [t])
def allT (r : Rdr) (en : ByteArray) (body : (Tree → PM Tree) → PM Tree) (K : List Tree → PM Tree) (f : Nat) (l : List Tree) : PM Tree := bindM (tookM r en) fun b => match b with
  | true => K l
  | false => body fun t => allK r en body K f (l ++ [t])
theorem allK_eq (r : Rdr) (en : ByteArray) (body : (Tree → PM Tree) → PM Tree) (part : PM Tree) (hb : ∀ K, body K = bindM part K) (pre : List Tree) (K : List Tree → PM Tree) : ∀ (f : Nat) (l : List Tree), allK r en body K f (pre ++ l) = bindM (allM r en part f l) fun l => K (pre ++ l)
 | 0, l => rfl
 | f + 1, l => by
  unfold allK allM
  rw [bindM_assoc]
  congr 1
  funext b
  cases b with
  | true => funext i; exact (at_ok (p := pureM l) (f := fun l => K (pre ++ l)) (i := i) rfl).symm
  | false =>
   dsimp only
   rw [hb, bindM_assoc]
   congr 1
   funext t
   rw [List.append_assoc]
   exact allK_eq r en body part hb pre K f (l ++ [t])
def sigK (r : Rdr) (T : PM Tree) (K : Tree → PM Tree) : PM Tree := bindM (hereM r) fun a => bindM (needM r ⟨#[102, 110]⟩) fun _ => bindM (nameM r) fun nm => bindM (needM r ⟨#[40]⟩) fun _ => bindM (argsR r ⟨#[41]⟩ T) fun q => bindM (resultR r T) fun o => bindM (needM r ⟨#[59]⟩) fun _ => K (.mk 9 nm a [q, o])
theorem args_in (r : Rdr) (hK : Known r.L) (T : PM Tree) (hT : Up T) {β : Type} (f : Tree → PM β) : (bindM (needM r ⟨#[40]⟩) fun _ => bindM (argsR r ⟨#[41]⟩ T) f) = bindM (argsC r T) f := by
 unfold argsC
 rw [← argsR_eq r ⟨#[40]⟩ ⟨#[41]⟩ T (fun j hm => (not_kind hK hm (by decide) (known_of (by decide))).1) hT, bindM_assoc]
theorem sigK_eq (r : Rdr) (hK : Known r.L) (T : PM Tree) (hT : Up T) (K : Tree → PM Tree) : sigK r T K = bindM (sigM r T) K := by
 unfold sigK sigM
 simp only [bindM_assoc]
 congr 1
 funext a
 congr 1
 funext _
 congr 1
 funext nm
 rw [args_in r hK T hT]
 congr 1
 funext q
 rw [resultR_eq]
 congr 1
def fnK (r : Rdr) (T Bk : PM Tree) (K : Tree → PM Tree) : PM Tree := bindM (hereM r) fun a => bindM (needM r ⟨#[102, 110]⟩) fun _ => bindM (funR r false T Bk a) K
theorem fnK_eq (r : Rdr) (hK : Known r.L) (T Bk : PM Tree) (hT : Up T) (K : Tree → PM Tree) : fnK r T Bk K = bindM (functionM r (noParamsP r) T Bk) K := by
 have h := funR_eq r hK T Bk hT false
 unfold fnK
 rw [← h]
 simp only [bindM_assoc]
-- the items
def useR (r : Rdr) : PM Tree := bindM (hereM r) fun a => bindM (needM r ⟨#[117, 115, 101]⟩) fun _ => bindM (nameM r) fun nm => bindM (needM r ⟨#[59]⟩) fun _ => ndM 1 nm a []
theorem useR_eq (r : Rdr) : useR r = useP r := by
 funext i
 unfold useR useP usedP
 have h1 : hereM r i = .ok ((r.L.getD i tok0).at_, i) := rfl
 rw [at_ok h1]
 by_cases hm : isMark r i ⟨#[117, 115, 101]⟩ = true
 ·rw [at_ok (nd_yes hm), if_pos hm]
  by_cases hk : (r.L.getD (i + 1) tok0).kind = 1
  ·rw [at_ok (nm_yes hk), if_pos hk]
   by_cases hs : isMark r (i + 2) ⟨#[59]⟩ = true
   ·rw [at_ok (nd_yes hs), if_pos hs]; rfl
   ·rw [at_err (nd_no hs), if_neg hs]
  ·rw [at_err (nm_no hk), if_neg hk]
 ·rw [at_err (nd_no hm), if_neg hm]
def pubR (r : Rdr) : PM Tree := bindM (hereM r) fun a => bindM (needM r ⟨#[112, 117, 98]⟩) fun _ => bindM (needM r ⟨#[117, 115, 101]⟩) fun _ => bindM (nameM r) fun nm => bindM (needM r ⟨#[59]⟩) fun _ => ndM 2 nm a []
theorem pubR_eq (r : Rdr) : pubR r = pubUseP r := by
 funext i
 unfold pubR pubUseP usedP
 have h1 : hereM r i = .ok ((r.L.getD i tok0).at_, i) := rfl
 rw [at_ok h1]
 by_cases hp : isMark r i ⟨#[112, 117, 98]⟩ = true
 ·rw [at_ok (nd_yes hp), if_pos hp]
  by_cases hm : isMark r (i + 1) ⟨#[117, 115, 101]⟩ = true
  ·rw [at_ok (nd_yes hm), if_pos hm]
   by_cases hk : (r.L.getD (i + 1 + 1) tok0).kind = 1
   ·rw [at_ok (nm_yes hk), if_pos hk]
    by_cases hs : isMark r (i + 1 + 2) ⟨#[59]⟩ = true
    ·rw [at_ok (nd_yes hs), if_pos hs]; rfl
    ·rw [at_err (nd_no hs), if_neg hs]
   ·rw [at_err (nm_no hk), if_neg hk]
  ·rw [at_err (nd_no hm), if_neg hm]
 ·rw [at_err (nd_no hp), if_neg hp]
def recR (r : Rdr) (T : PM Tree) : PM Tree := bindM (hereM r) fun a => bindM (needM r ⟨#[116, 121, 112, 101]⟩) fun _ => bindM (nameM r) fun nm => bindM (paramsR r) fun p => bindM (needM r ⟨#[123]⟩) fun _ => bindM (argsR r ⟨#[125]⟩ T) fun q => ndM 5 nm a [p, q]
theorem recR_eq (r : Rdr) (hK : Known r.L) (T : PM Tree) (hT : Up T) : recR r T = recordM r T := by
 unfold recR recordM
 rw [← argsR_eq r ⟨#[123]⟩ ⟨#[125]⟩ T (fun j hm => (not_kind hK hm (by decide) (known_of (by decide))).1) hT, paramsR_eq]
 simp only [bindM_assoc]
def traR (r : Rdr) (T : PM Tree) : PM Tree := bindM (hereM r) fun a => bindM (needM r ⟨#[116, 114, 97, 105, 116]⟩) fun _ => bindM (nameM r) fun nm => supR r fun u => bindM (needM r ⟨#[123]⟩) fun _ => allK r ⟨#[125]⟩ (sigK r T) (fun l => ndM 6 nm a l) (r.L.length + 1) [u]
theorem traR_eq (r : Rdr) (hK : Known r.L) (T : PM Tree) (hT : Up T) : traR r T = traitM r T := by
 unfold traR traitM allP
 simp only [supR_eq]
 congr 1
 funext a
 congr 1
 funext _
 congr 1
 funext nm
 congr 1
 funext u
 congr 1
 funext _
 exact allK_eq r ⟨#[125]⟩ (sigK r T) (sigM r T) (sigK_eq r hK T hT) [u] (fun l => ndM 6 nm a l) (r.L.length + 1) []
def impR (r : Rdr) (T Bk : PM Tree) : PM Tree := bindM (hereM r) fun a => bindM (needM r ⟨#[105, 109, 112, 108]⟩) fun _ => bindM (paramsR r) fun p => bindM (nameM r) fun nm => bindM (needM r ⟨#[102, 111, 114]⟩) fun _ => bindM T fun t => bindM (needM r ⟨#[123]⟩) fun _ => allK r ⟨#[125]⟩ (fnK r T Bk) (fun l => ndM 7 nm a l) (r.L.length + 1) [p, t]
theorem impR_eq (r : Rdr) (hK : Known r.L) (T Bk : PM Tree) (hT : Up T) : impR r T Bk = implM r T Bk := by
 unfold impR implM allP
 rw [paramsR_eq]
 congr 1
 funext a
 congr 1
 funext _
 congr 1
 funext p
 congr 1
 funext nm
 congr 1
 funext _
 congr 1
 funext t
 congr 1
 funext _
 exact allK_eq r ⟨#[125]⟩ (fnK r T Bk) (functionM r (noParamsP r) T Bk) (fnK_eq r hK T Bk hT) [p, t] (fun l => ndM 7 nm a l) (r.L.length + 1) []
def macR (r : Rdr) (E : PM Tree) : PM Tree := bindM (hereM r) fun a => bindM (needM r ⟨#[109, 97, 99, 114, 111]⟩) fun _ => bindM (nameM r) fun nm => bindM (needM r ⟨#[40]⟩) fun _ => macA r fun q => bindM (needM r ⟨#[61]⟩) fun _ => bindM E fun v => bindM (needM r ⟨#[59]⟩) fun _ => ndM 8 nm a [q, v]
theorem macR_eq (r : Rdr) (E : PM Tree) : macR r E = macroM r E := by
 unfold macR macroM
 simp only [macA_eq]
-- an item by its first token
/-- the contract speaks of the plain reader at one place alone -/
theorem RrPost.same {r : Rdr} {p p' : PM Tree} {i : Nat} {s : Bool} {w w' : World} {e : Ending} (h : RrPost r p (.ok i) s w e w') (he : p i = p' i) : RrPost r p' (.ok i) s w e w' := by
 obtain ⟨q, t, h1, h2, h3, h4, h5⟩ := h
 refine ⟨q, t, h1, h2, ?_, h4, fun j y m e2 hy => ?_⟩
 ·have : after p (.ok i) = after p' (.ok i) := by unfold after; dsimp only; rw [he]
  rw [← this]; exact h3
 ·cases e2
  rw [← he] at hy
  exact h5 i y m rfl hy
theorem take_yes (r : Rdr) (i : Nat) (s : Bool) (sg : ByteArray) (w : World) (h : RrAt r (.ok i) s w) (hE : EndAt r) (hK : Known r.L) (hs : sg.size ≠ 0) (hk : sg.toList ∈ knownL) (hm : isMark r i sg = true) :
  Calls Tryz.prog 55 #[.pointer (some ⟨r.b, 0, none⟩), .string sg] w fun e w' => e = .returned (.bool true) ∧ RrAt r (.ok (i + 1)) s w' ∧ Mv r w w' := by
 refine (take_r r _ s sg w h hE hK hs hk).mono ?_
 rintro e w' ⟨b, rfl, hr, hm2, hg, -⟩
 have := hg i true (i + 1) rfl (tk_yes hm)
 subst this
 rw [after_ok (tk_yes hm)] at hr
 exact ⟨rfl, hr, hm2⟩
theorem take_no (r : Rdr) (i : Nat) (s : Bool) (sg : ByteArray) (w : World) (h : RrAt r (.ok i) s w) (hE : EndAt r) (hK : Known r.L) (hs : sg.size ≠ 0) (hk : sg.toList ∈ knownL) (hm : isMark r i sg = false) :
  Calls Tryz.prog 55 #[.pointer (some ⟨r.b, 0, none⟩), .string sg] w fun e w' => e = .returned (.bool false) ∧ RrAt r (.ok i) s w' ∧ Mv r w w' := by
 have hm' : ¬ isMark r i sg = true := by rw [hm]; decide
 refine (take_r r _ s sg w h hE hK hs hk).mono ?_
 rintro e w' ⟨b, rfl, hr, hm2, hg, -⟩
 have := hg i false i rfl (tk_no hm')
 subst this
 rw [after_ok (tk_no hm')] at hr
 exact ⟨rfl, hr, hm2⟩
end Go.Proofs.YtgcaeimlmkkeoaaGreat
namespace Go.Proofs.YtgcaeimlmkkeoaaGreat
open Go Go.RowKit
set_option maxRecDepth 100000 in
set_option maxHeartbeats 4000000 in
theorem rItem_use (r : Rdr) (i : Nat) (s : Bool)  (w : World) (h : RrAt r (.ok i) s w) (hE : EndAt r) (hK : Known r.L) (hk : isMark r i ⟨#[117, 115, 101]⟩ = true) :
  Calls Tryz.prog 33 #[.pointer (some ⟨r.b, 0, none⟩)] w (RrPost r (useR r) (.ok i) s w) := by
 have HT := Lib.hid (St.start h)
 have HE := Lib.hid hE
 have HK := Lib.hid hK
 obtain ⟨P, hP⟩ : ∃ P, (useR r) = P := ⟨_, rfl⟩
 have hd : Due P (.ok i) (useR r) (.ok i) := by rw [hP]; exact Due.refl _ _
 rw [hP]
 clear hP
 unfold useR at hd
 have HD := Lib.hid hd
 clear h hE hK hd
 go_enter Tryz.func33, Tryz.ntmps33
 go_wp2_with fail
 generalize w.alloc (.cells #[.int .i64 0, .string ⟨#[]⟩, .int .i64 0, .slice none 0 0] 40) = w1 at *
 refine (here_r r _ s _ HT.out.rr).mono ?_
 rintro e w2 ⟨a, rfl, hr, hm, hg⟩
 replace HD := Lib.hid (HD.out.step hg)
 replace HT := Lib.hid (HT.out.on hr hm)
 clear hr hm hg
 rw [after_here] at HT HD
 go_wp2_with fail
 refine (take_yes r i s ⟨#[117, 115, 101]⟩ _ HT.out.rr HE.out HK.out (by decide) (known_of (by decide)) hk).mono ?_
 rintro e w3 ⟨rfl, hr, hm⟩
 replace HT := Lib.hid (HT.out.on hr hm)
 replace HD := Lib.hid ((HD.out.step (Got.unit _ _)).at_ (after_ok (nd_yes hk)))
 clear hr hm hk
 go_wp2_with fail
 refine (name_r r _ s _ HT.out.rr HE.out).mono ?_
 rintro e w4 ⟨nm, rfl, hr, hm, hg⟩
 replace HD := Lib.hid (HD.out.step hg)
 replace HT := Lib.hid (HT.out.on hr hm)
 clear hr hm hg
 go_wp2_with fail
 refine (need_r r _ s ⟨#[59]⟩ _ HT.out.rr HE.out HK.out (by decide) (known_of (by decide))).mono ?_
 rintro e w5 ⟨rfl, hr, hm⟩
 replace HD := Lib.hid (HD.out.step (Got.unit _ _))
 replace HT := Lib.hid (HT.out.on hr hm)
 clear hr hm
 go_wp2_with fail
 refine (leaf_r 1 nm a none 0 0 _ HT.out.rr).mono ?_
 rintro e w6 ⟨rfl, hr, hm⟩
 replace HT := Lib.hid (HT.out.on hr hm)
 clear hr hm
 have HW := Lib.hid (HT.out.ret (q := ⟨1, nm, a, none, 0, 0⟩) (IsT.leaf _ _ _ _ _))
 obtain ⟨d0, d1, d2, d3, f0⟩ := HT.out.res.cells
 try unfold ndC
 go_wp2_with fail
 obtain ⟨hcell, hist, hrr, hmv⟩ := HW.out
 exact bodyPost_ret (results_cellT rfl _ _ _ ⟨w.heap.size, 0, none⟩ _ rfl (load_node _ _ ⟨1, nm, a, none, 0, 0⟩ hcell)) rfl (HD.out.postP hist hrr hmv)
set_option maxRecDepth 100000 in
set_option maxHeartbeats 4000000 in
theorem rItem_pub (r : Rdr) (i : Nat) (s : Bool)  (w : World) (h : RrAt r (.ok i) s w) (hE : EndAt r) (hK : Known r.L) (n0 : isMark r i ⟨#[117, 115, 101]⟩ = false) (hk : isMark r i ⟨#[112, 117, 98]⟩ = true) :
  Calls Tryz.prog 33 #[.pointer (some ⟨r.b, 0, none⟩)] w (RrPost r (pubR r) (.ok i) s w) := by
 have HT := Lib.hid (St.start h)
 have HE := Lib.hid hE
 have HK := Lib.hid hK
 obtain ⟨P, hP⟩ : ∃ P, (pubR r) = P := ⟨_, rfl⟩
 have hd : Due P (.ok i) (pubR r) (.ok i) := by rw [hP]; exact Due.refl _ _
 rw [hP]
 clear hP
 unfold pubR at hd
 have HD := Lib.hid hd
 clear h hE hK hd
 go_enter Tryz.func33, Tryz.ntmps33
 go_wp2_with fail
 generalize w.alloc (.cells #[.int .i64 0, .string ⟨#[]⟩, .int .i64 0, .slice none 0 0] 40) = w1 at *
 refine (here_r r _ s _ HT.out.rr).mono ?_
 rintro e w2 ⟨a, rfl, hr, hm, hg⟩
 replace HD := Lib.hid (HD.out.step hg)
 replace HT := Lib.hid (HT.out.on hr hm)
 clear hr hm hg
 rw [after_here] at HT HD
 go_wp2_with fail
 refine (take_no r i s ⟨#[117, 115, 101]⟩ _ HT.out.rr HE.out HK.out (by decide) (known_of (by decide)) n0).mono ?_
 rintro e u0 ⟨rfl, hr, hm⟩
 replace HT := Lib.hid (HT.out.on hr hm)
 clear hr hm n0
 go_wp2_with fail
 refine (take_yes r i s ⟨#[112, 117, 98]⟩ _ HT.out.rr HE.out HK.out (by decide) (known_of (by decide)) hk).mono ?_
 rintro e w3 ⟨rfl, hr, hm⟩
 replace HT := Lib.hid (HT.out.on hr hm)
 replace HD := Lib.hid ((HD.out.step (Got.unit _ _)).at_ (after_ok (nd_yes hk)))
 clear hr hm hk
 go_wp2_with fail
 refine (need_r r _ s ⟨#[117, 115, 101]⟩ _ HT.out.rr HE.out HK.out (by decide) (known_of (by decide))).mono ?_
 rintro e w4 ⟨rfl, hr, hm⟩
 replace HD := Lib.hid (HD.out.step (Got.unit _ _))
 replace HT := Lib.hid (HT.out.on hr hm)
 clear hr hm
 go_wp2_with fail
 refine (name_r r _ s _ HT.out.rr HE.out).mono ?_
 rintro e w5 ⟨nm, rfl, hr, hm, hg⟩
 replace HD := Lib.hid (HD.out.step hg)
 replace HT := Lib.hid (HT.out.on hr hm)
 clear hr hm hg
 go_wp2_with fail
 refine (need_r r _ s ⟨#[59]⟩ _ HT.out.rr HE.out HK.out (by decide) (known_of (by decide))).mono ?_
 rintro e w6 ⟨rfl, hr, hm⟩
 replace HD := Lib.hid (HD.out.step (Got.unit _ _))
 replace HT := Lib.hid (HT.out.on hr hm)
 clear hr hm
 go_wp2_with fail
 refine (leaf_r 2 nm a none 0 0 _ HT.out.rr).mono ?_
 rintro e w7 ⟨rfl, hr, hm⟩
 replace HT := Lib.hid (HT.out.on hr hm)
 clear hr hm
 have HW := Lib.hid (HT.out.ret (q := ⟨2, nm, a, none, 0, 0⟩) (IsT.leaf _ _ _ _ _))
 obtain ⟨d0, d1, d2, d3, f0⟩ := HT.out.res.cells
 try unfold ndC
 go_wp2_with fail
 obtain ⟨hcell, hist, hrr, hmv⟩ := HW.out
 exact bodyPost_ret (results_cellT rfl _ _ _ ⟨w.heap.size, 0, none⟩ _ rfl (load_node _ _ ⟨2, nm, a, none, 0, 0⟩ hcell)) rfl (HD.out.postP hist hrr hmv)
set_option maxRecDepth 100000 in
set_option maxHeartbeats 4000000 in
theorem rItem_const (r : Rdr) (i : Nat) (s : Bool) (T E : PM Tree)  (w : World) (h : RrAt r (.ok i) s w) (hE : EndAt r) (hK : Known r.L) (hT : ∀ σ1 w1, RrAt r σ1 s w1 → Calls Tryz.prog 41 #[.pointer (some ⟨r.b, 0, none⟩), .int .i64 1] w1 (RrPost r T σ1 s w1)) (hX : ∀ σ1 w1, RrAt r σ1 s w1 → Calls Tryz.prog 38 #[.pointer (some ⟨r.b, 0, none⟩), .int .i64 1] w1 (RrPost r E σ1 s w1)) (n0 : isMark r i ⟨#[117, 115, 101]⟩ = false) (n1 : isMark r i ⟨#[112, 117, 98]⟩ = false) (hk : isMark r i ⟨#[99, 111, 110, 115, 116]⟩ = true) :
  Calls Tryz.prog 33 #[.pointer (some ⟨r.b, 0, none⟩)] w (RrPost r (constantM r T E) (.ok i) s w) := by
 have HT := Lib.hid (St.start h)
 have HE := Lib.hid hE
 have HK := Lib.hid hK
 have HTY := Lib.hid hT
 have HEX := Lib.hid hX
 obtain ⟨P, hP⟩ : ∃ P, (constantM r T E) = P := ⟨_, rfl⟩
 have hd : Due P (.ok i) (constantM r T E) (.ok i) := by rw [hP]; exact Due.refl _ _
 rw [hP]
 clear hP
 unfold constantM at hd
 have HD := Lib.hid hd
 clear h hE hK hd hT hX
 go_enter Tryz.func33, Tryz.ntmps33
 go_wp2_with fail
 generalize w.alloc (.cells #[.int .i64 0, .string ⟨#[]⟩, .int .i64 0, .slice none 0 0] 40) = w1 at *
 refine (here_r r _ s _ HT.out.rr).mono ?_
 rintro e w2 ⟨a, rfl, hr, hm, hg⟩
 replace HD := Lib.hid (HD.out.step hg)
 replace HT := Lib.hid (HT.out.on hr hm)
 clear hr hm hg
 rw [after_here] at HT HD
 go_wp2_with fail
 refine (take_no r i s ⟨#[117, 115, 101]⟩ _ HT.out.rr HE.out HK.out (by decide) (known_of (by decide)) n0).mono ?_
 rintro e u0 ⟨rfl, hr, hm⟩
 replace HT := Lib.hid (HT.out.on hr hm)
 clear hr hm n0
 go_wp2_with fail
 refine (take_no r i s ⟨#[112, 117, 98]⟩ _ HT.out.rr HE.out HK.out (by decide) (known_of (by decide)) n1).mono ?_
 rintro e u1 ⟨rfl, hr, hm⟩
 replace HT := Lib.hid (HT.out.on hr hm)
 clear hr hm n1
 go_wp2_with fail
 refine (take_yes r i s ⟨#[99, 111, 110, 115, 116]⟩ _ HT.out.rr HE.out HK.out (by decide) (known_of (by decide)) hk).mono ?_
 rintro e w3 ⟨rfl, hr, hm⟩
 replace HT := Lib.hid (HT.out.on hr hm)
 replace HD := Lib.hid ((HD.out.step (Got.unit _ _)).at_ (after_ok (nd_yes hk)))
 clear hr hm hk
 go_wp2_with fail
 refine (name_r r _ s _ HT.out.rr HE.out).mono ?_
 rintro e w4 ⟨nm, rfl, hr, hm, hg⟩
 replace HD := Lib.hid (HD.out.step hg)
 replace HT := Lib.hid (HT.out.on hr hm)
 clear hr hm hg
 go_wp2_with fail
 refine (need_r r _ s ⟨#[58]⟩ _ HT.out.rr HE.out HK.out (by decide) (known_of (by decide))).mono ?_
 rintro e w5 ⟨rfl, hr, hm⟩
 replace HD := Lib.hid (HD.out.step (Got.unit _ _))
 replace HT := Lib.hid (HT.out.on hr hm)
 clear hr hm
 go_wp2_with fail
 refine (HTY.out _ _ HT.out.rr).mono ?_
 rintro e w6 ⟨q1, t1, rfl, ht, hr, hm, hg⟩
 have HI := Lib.hid (ht.mono (fun b hb => Nat.lt_of_lt_of_le HT.out.up hb))
 replace HD := Lib.hid (HD.out.step hg)
 replace HT := Lib.hid (HT.out.on hr hm)
 clear hr hm hg ht
 unfold ndC
 go_wp2_with fail
 have HP := Lib.hid (Var.first HT.out HI.out)
 have hbx := boxB w6 (.cells (ndC q1) 40)
 replace HT := Lib.hid (HT.out.on (HT.out.rr.below hbx) (Mv.of_below hbx))
 clear hbx HI
 unfold ndC at HP HT 
 obtain ⟨g1, hg⟩ : ∃ g1, w6.heap.size = g1 := ⟨_, rfl⟩
 rw [hg] at HP ⊢
 generalize w6.alloc (.cells #[.int .i64 q1.kind, .string q1.text, .int .i64 q1.at_, .slice q1.p q1.n q1.cap] 40) = w7 at *
 clear hg
 refine (need_r r _ s ⟨#[61]⟩ _ HT.out.rr HE.out HK.out (by decide) (known_of (by decide))).mono ?_
 rintro e w8 ⟨rfl, hr, hm⟩
 replace HD := Lib.hid (HD.out.step (Got.unit _ _))
 replace HT := Lib.hid (HT.out.on hr hm)
 replace HP := Lib.hid (HP.out.on hm)
 clear hr hm
 go_wp2_with fail
 refine (HEX.out _ _ HT.out.rr).mono ?_
 rintro e w9 ⟨q2, t2, rfl, ht, hr, hm, hg⟩
 have HI := Lib.hid (ht.mono (fun b hb => Nat.lt_of_lt_of_le HT.out.up hb))
 replace HD := Lib.hid (HD.out.step hg)
 replace HT := Lib.hid (HT.out.on hr hm)
 replace HP := Lib.hid (HP.out.on hm)
 clear hr hm hg ht
 unfold ndC
 go_wp2_with fail
 have HQ := Lib.hid (Var.first HT.out HI.out)
 have hbx := boxB w9 (.cells (ndC q2) 40)
 replace HT := Lib.hid (HT.out.on (HT.out.rr.below hbx) (Mv.of_below hbx))
 replace HP := Lib.hid (HP.out.on (Mv.of_below hbx))
 clear hbx HI
 unfold ndC at HQ HT HP
 obtain ⟨g2, hg⟩ : ∃ g2, w9.heap.size = g2 := ⟨_, rfl⟩
 rw [hg] at HQ ⊢
 generalize w9.alloc (.cells #[.int .i64 q2.kind, .string q2.text, .int .i64 q2.at_, .slice q2.p q2.n q2.cap] 40) = w10 at *
 clear hg
 refine (need_r r _ s ⟨#[59]⟩ _ HT.out.rr HE.out HK.out (by decide) (known_of (by decide))).mono ?_
 rintro e w11 ⟨rfl, hr, hm⟩
 replace HD := Lib.hid (HD.out.step (Got.unit _ _))
 replace HT := Lib.hid (HT.out.on hr hm)
 replace HP := Lib.hid (HP.out.on hm)
 replace HQ := Lib.hid (HQ.out.on hm)
 clear hr hm
 obtain ⟨x0, x1, x2, x3⟩ := HP.out.box.cells
 obtain ⟨y0, y1, y2, y3⟩ := HQ.out.box.cells
 have hbx := boxB w11 (.cells #[.int .i64 q1.kind, .string q1.text, .int .i64 q1.at_, .slice q1.p q1.n q1.cap, .int .i64 q2.kind, .string q2.text, .int .i64 q2.at_, .slice q2.p q2.n q2.cap] 40)
 have hrow : IsTs (fun b => w.heap.size < b) (w11.alloc (.cells #[.int .i64 q1.kind, .string q1.text, .int .i64 q1.at_, .slice q1.p q1.n q1.cap, .int .i64 q2.kind, .string q2.text, .int .i64 q2.at_, .slice q2.p q2.n q2.cap] 40)) (.slice (some ⟨w11.heap.size, 0, none⟩) 2 2) [t1, t2] := IsTs.rowAt _ [q1, q2] [t1, t2] (heap_alloc_new w11 _) rfl rfl rfl (by decide) (by decide) HT.out.up (fun i a b => match i, a, b with | 0, _, _ => HP.out.val.later hbx | 1, _, _ => HQ.out.val.later hbx | i + 2, c, _ => absurd c (by simp))
 replace HT := Lib.hid (HT.out.on (HT.out.rr.below hbx) (Mv.of_below hbx))
 have HN := Lib.hid hrow
 clear hbx hrow
 try unfold ndC
 go_wp2_with fail
 clear x0 x1 x2 x3 y0 y1 y2 y3 HP HQ
 obtain ⟨g6, hg6⟩ : ∃ g6, w11.heap.size = g6 := ⟨_, rfl⟩
 rw [hg6] at HN ⊢
 generalize w11.alloc (.cells #[.int .i64 q1.kind, .string q1.text, .int .i64 q1.at_, .slice q1.p q1.n q1.cap, .int .i64 q2.kind, .string q2.text, .int .i64 q2.at_, .slice q2.p q2.n q2.cap] 40) = w12 at *
 clear hg6
 refine (leaf_r 3 nm a (some ⟨g6, 0, none⟩) 2 2 _ HT.out.rr).mono ?_
 rintro e w120 ⟨rfl, hr, hm⟩
 replace HT := Lib.hid (HT.out.on hr hm)
 replace HN := Lib.hid (HN.out.but hm (fun a e q => by have e2 : a.block = r.b := e; have := HT.out.rb; omega))
 clear hr hm
 have HW := Lib.hid (HT.out.ret (q := ⟨3, nm, a, some ⟨g6, 0, none⟩, 2, 2⟩) (IsT.node _ _ _ HN.out))
 obtain ⟨d0, d1, d2, d3, f0⟩ := HT.out.res.cells
 try unfold ndC
 go_wp2_with fail
 obtain ⟨hcell, hist, hrr, hmv⟩ := HW.out
 exact bodyPost_ret (results_cellT rfl _ _ _ ⟨w.heap.size, 0, none⟩ _ rfl (load_node _ _ ⟨3, nm, a, some ⟨g6, 0, none⟩, 2, 2⟩ hcell)) rfl (HD.out.postP hist hrr hmv)
set_option maxRecDepth 100000 in
set_option maxHeartbeats 4000000 in
theorem rItem_fn (r : Rdr) (i : Nat) (s : Bool) (T Bk : PM Tree) (hup : Up T)  (w : World) (h : RrAt r (.ok i) s w) (hE : EndAt r) (hK : Known r.L) (hT : ∀ σ1 w1, RrAt r σ1 s w1 → Calls Tryz.prog 41 #[.pointer (some ⟨r.b, 0, none⟩), .int .i64 1] w1 (RrPost r T σ1 s w1)) (hB : ∀ σ1 w1, RrAt r σ1 s w1 → Calls Tryz.prog 88 #[.pointer (some ⟨r.b, 0, none⟩), .int .i64 1] w1 (RrPost r Bk σ1 s w1)) (n0 : isMark r i ⟨#[117, 115, 101]⟩ = false) (n1 : isMark r i ⟨#[112, 117, 98]⟩ = false) (n2 : isMark r i ⟨#[99, 111, 110, 115, 116]⟩ = false) (hk : isMark r i ⟨#[102, 110]⟩ = true) :
  Calls Tryz.prog 33 #[.pointer (some ⟨r.b, 0, none⟩)] w (RrPost r (bindM (hereM r) fun a => bindM (needM r ⟨#[102, 110]⟩) fun _ => funR r true T Bk a) (.ok i) s w) := by
 have HT := Lib.hid (St.start h)
 have HE := Lib.hid hE
 have HK := Lib.hid hK
 have HTY := Lib.hid hT
 have HUP := Lib.hid hup
 have HBK := Lib.hid hB
 obtain ⟨P, hP⟩ : ∃ P, (bindM (hereM r) fun a => bindM (needM r ⟨#[102, 110]⟩) fun _ => funR r true T Bk a) = P := ⟨_, rfl⟩
 have hd : Due P (.ok i) (bindM (hereM r) fun a => bindM (needM r ⟨#[102, 110]⟩) fun _ => funR r true T Bk a) (.ok i) := by rw [hP]; exact Due.refl _ _
 rw [hP]
 clear hP
 have HD := Lib.hid hd
 clear h hE hK hd hT hB
 go_enter Tryz.func33, Tryz.ntmps33
 go_wp2_with fail
 generalize w.alloc (.cells #[.int .i64 0, .string ⟨#[]⟩, .int .i64 0, .slice none 0 0] 40) = w1 at *
 refine (here_r r _ s _ HT.out.rr).mono ?_
 rintro e w2 ⟨a, rfl, hr, hm, hg⟩
 replace HD := Lib.hid (HD.out.step hg)
 replace HT := Lib.hid (HT.out.on hr hm)
 clear hr hm hg
 rw [after_here] at HT HD
 go_wp2_with fail
 refine (take_no r i s ⟨#[117, 115, 101]⟩ _ HT.out.rr HE.out HK.out (by decide) (known_of (by decide)) n0).mono ?_
 rintro e u0 ⟨rfl, hr, hm⟩
 replace HT := Lib.hid (HT.out.on hr hm)
 clear hr hm n0
 go_wp2_with fail
 refine (take_no r i s ⟨#[112, 117, 98]⟩ _ HT.out.rr HE.out HK.out (by decide) (known_of (by decide)) n1).mono ?_
 rintro e u1 ⟨rfl, hr, hm⟩
 replace HT := Lib.hid (HT.out.on hr hm)
 clear hr hm n1
 go_wp2_with fail
 refine (take_no r i s ⟨#[99, 111, 110, 115, 116]⟩ _ HT.out.rr HE.out HK.out (by decide) (known_of (by decide)) n2).mono ?_
 rintro e u2 ⟨rfl, hr, hm⟩
 replace HT := Lib.hid (HT.out.on hr hm)
 clear hr hm n2
 go_wp2_with fail
 refine (take_yes r i s ⟨#[102, 110]⟩ _ HT.out.rr HE.out HK.out (by decide) (known_of (by decide)) hk).mono ?_
 rintro e w3 ⟨rfl, hr, hm⟩
 replace HT := Lib.hid (HT.out.on hr hm)
 replace HD := Lib.hid ((HD.out.step (Got.unit _ _)).at_ (after_ok (nd_yes hk)))
 clear hr hm hk
 go_wp2_with fail
 refine (rFun_any r _ s true T Bk a HUP.out _ HT.out.rr HE.out HK.out HTY.out HBK.out).mono ?_
 rintro e w4 ⟨q, t, rfl, ht, hr, hm, hg⟩
 have HI := Lib.hid (ht.mono (fun b hb => Nat.lt_of_lt_of_le HT.out.up hb))
 have HG := Lib.hid hg
 replace HT := Lib.hid (HT.out.on hr hm)
 clear hr hm hg ht
 have HW := Lib.hid (HT.out.ret (q := q) (HI.out))
 obtain ⟨d0, d1, d2, d3, f0⟩ := HT.out.res.cells
 try unfold ndC
 go_wp2_with fail
 obtain ⟨hcell, hist, hrr, hmv⟩ := HW.out
 exact bodyPost_ret (results_cellT rfl _ _ _ ⟨w.heap.size, 0, none⟩ _ rfl (load_node _ _ q hcell)) rfl (HD.out.post HG.out hist hrr hmv)
set_option maxRecDepth 100000 in
set_option maxHeartbeats 4000000 in
theorem rItem_type (r : Rdr) (i : Nat) (s : Bool) (T : PM Tree) (hup : Up T)  (w : World) (h : RrAt r (.ok i) s w) (hE : EndAt r) (hK : Known r.L) (hT : ∀ σ1 w1, RrAt r σ1 s w1 → Calls Tryz.prog 41 #[.pointer (some ⟨r.b, 0, none⟩), .int .i64 1] w1 (RrPost r T σ1 s w1)) (n0 : isMark r i ⟨#[117, 115, 101]⟩ = false) (n1 : isMark r i ⟨#[112, 117, 98]⟩ = false) (n2 : isMark r i ⟨#[99, 111, 110, 115, 116]⟩ = false) (n3 : isMark r i ⟨#[102, 110]⟩ = false) (hk : isMark r i ⟨#[116, 121, 112, 101]⟩ = true) :
  Calls Tryz.prog 33 #[.pointer (some ⟨r.b, 0, none⟩)] w (RrPost r (recR r T) (.ok i) s w) := by
 have HT := Lib.hid (St.start h)
 have HE := Lib.hid hE
 have HK := Lib.hid hK
 have HTY := Lib.hid hT
 have HUP := Lib.hid hup
 obtain ⟨P, hP⟩ : ∃ P, (recR r T) = P := ⟨_, rfl⟩
 have hd : Due P (.ok i) (recR r T) (.ok i) := by rw [hP]; exact Due.refl _ _
 rw [hP]
 clear hP
 unfold recR at hd
 have HD := Lib.hid hd
 clear h hE hK hd hT
 go_enter Tryz.func33, Tryz.ntmps33
 go_wp2_with fail
 generalize w.alloc (.cells #[.int .i64 0, .string ⟨#[]⟩, .int .i64 0, .slice none 0 0] 40) = w1 at *
 refine (here_r r _ s _ HT.out.rr).mono ?_
 rintro e w2 ⟨a, rfl, hr, hm, hg⟩
 replace HD := Lib.hid (HD.out.step hg)
 replace HT := Lib.hid (HT.out.on hr hm)
 clear hr hm hg
 rw [after_here] at HT HD
 go_wp2_with fail
 refine (take_no r i s ⟨#[117, 115, 101]⟩ _ HT.out.rr HE.out HK.out (by decide) (known_of (by decide)) n0).mono ?_
 rintro e u0 ⟨rfl, hr, hm⟩
 replace HT := Lib.hid (HT.out.on hr hm)
 clear hr hm n0
 go_wp2_with fail
 refine (take_no r i s ⟨#[112, 117, 98]⟩ _ HT.out.rr HE.out HK.out (by decide) (known_of (by decide)) n1).mono ?_
 rintro e u1 ⟨rfl, hr, hm⟩
 replace HT := Lib.hid (HT.out.on hr hm)
 clear hr hm n1
 go_wp2_with fail
 refine (take_no r i s ⟨#[99, 111, 110, 115, 116]⟩ _ HT.out.rr HE.out HK.out (by decide) (known_of (by decide)) n2).mono ?_
 rintro e u2 ⟨rfl, hr, hm⟩
 replace HT := Lib.hid (HT.out.on hr hm)
 clear hr hm n2
 go_wp2_with fail
 refine (take_no r i s ⟨#[102, 110]⟩ _ HT.out.rr HE.out HK.out (by decide) (known_of (by decide)) n3).mono ?_
 rintro e u3 ⟨rfl, hr, hm⟩
 replace HT := Lib.hid (HT.out.on hr hm)
 clear hr hm n3
 go_wp2_with fail
 refine (take_yes r i s ⟨#[116, 121, 112, 101]⟩ _ HT.out.rr HE.out HK.out (by decide) (known_of (by decide)) hk).mono ?_
 rintro e w3 ⟨rfl, hr, hm⟩
 replace HT := Lib.hid (HT.out.on hr hm)
 replace HD := Lib.hid ((HD.out.step (Got.unit _ _)).at_ (after_ok (nd_yes hk)))
 clear hr hm hk
 go_wp2_with fail
 refine (name_r r _ s _ HT.out.rr HE.out).mono ?_
 rintro e w4 ⟨nm, rfl, hr, hm, hg⟩
 replace HD := Lib.hid (HD.out.step hg)
 replace HT := Lib.hid (HT.out.on hr hm)
 clear hr hm hg
 go_wp2_with fail
 refine (rParams_any r _ s _ HT.out.rr HE.out HK.out).mono ?_
 rintro e w5 ⟨q1, t1, rfl, ht, hr, hm, hg⟩
 have HI := Lib.hid (ht.mono (fun b hb => Nat.lt_of_lt_of_le HT.out.up hb))
 replace HD := Lib.hid (HD.out.step hg)
 replace HT := Lib.hid (HT.out.on hr hm)
 clear hr hm hg ht
 unfold ndC
 go_wp2_with fail
 have HP := Lib.hid (Var.first HT.out HI.out)
 have hbx := boxB w5 (.cells (ndC q1) 40)
 replace HT := Lib.hid (HT.out.on (HT.out.rr.below hbx) (Mv.of_below hbx))
 clear hbx HI
 unfold ndC at HP HT 
 obtain ⟨g1, hg⟩ : ∃ g1, w5.heap.size = g1 := ⟨_, rfl⟩
 rw [hg] at HP ⊢
 generalize w5.alloc (.cells #[.int .i64 q1.kind, .string q1.text, .int .i64 q1.at_, .slice q1.p q1.n q1.cap] 40) = w6 at *
 clear hg
 refine (need_r r _ s ⟨#[123]⟩ _ HT.out.rr HE.out HK.out (by decide) (known_of (by decide))).mono ?_
 rintro e w7 ⟨rfl, hr, hm⟩
 replace HD := Lib.hid (HD.out.step (Got.unit _ _))
 replace HT := Lib.hid (HT.out.on hr hm)
 replace HP := Lib.hid (HP.out.on hm)
 clear hr hm
 generalize after (needM r _) _ = σ7 at HT HD
 go_wp2_with fail
 have HO : Hid (∀ b, (none : Option Nat) = some b → r.b < b ∧ b < w7.heap.size) := fun b e => by cases e
 have HRW : Hid (r.b < w7.heap.size) := HT.out.rr.rb
 apply wp_region_many 6 (Sx r none 4 1000) (InvX r w none w7) (F0x r σ7 s (r.b + 1) (.slice none 0 0) [] 4 1000)
 case hIS => exact fun i x y hs hi => hi.step i hs (fun b e => by cases e)
 case hk0 => exact F0x.keeps (v := .slice none 0 0) (by omega) (fun b e => by cases e)
 case hm => kernel_rfl
 case hB => kernel_rfl
 case h0 => exact InvX.start HT.out.mv
 case h1 => exact F0x.start HT.out.rr (Nodes.none _ _)
 simp only [List.take_succ_cons, List.take_zero, List.drop_succ_cons, List.drop_zero]
 apply wpMany_cons (t := tvIs (.string nm)) (tvIs_goodS _ _)
 case h1 =>
  intro W hI hl
  unfold oneAt
  go_simp
  exact sx_is (by decide) (by decide)
 intro _
 rw [tvIs_f]
 go_simp
 apply wpMany_cons (t := tvIs (.int .i64 a)) (tvIs_goodS _ _)
 case h1 =>
  intro W hI hl
  unfold oneAt
  go_simp
  exact sx_is (by decide) (by decide)
 intro _
 rw [tvIs_f]
 go_simp
 apply wpMany_cons (t := tvIs (.agg #[.int .i64 q1.kind, .string q1.text, .int .i64 q1.at_, .slice q1.p q1.n q1.cap])) (tvIs_goodS _ _)
 case h1 =>
  intro W hI hl
  obtain ⟨b0, b1, b2, b3⟩ := (hI.box HP.out.box (fun e => by cases e)).cells
  unfold oneAt
  go_simp
  exact sx_is (by decide) (by decide)
 intro _
 rw [tvIs_f]
 go_simp
 apply wpMany_cons (t := tvIs (.pointer (some ⟨r.b, 0, none⟩))) (tvIs_goodS _ _)
 case h1 =>
  intro W hI hl
  unfold oneAt
  go_simp
  exact sx_is (by decide) (by decide)
 intro _
 rw [tvIs_f]
 go_simp
 apply wpMany_cons (t := tyCall r w7 (argsR r ⟨#[125]⟩ T) σ7 s) (tyCall_good HRW.out (fun b e => by have := HO.out b e; omega))
 case h1 =>
  intro W hI hl
  have hr : RrAt r σ7 s W := hl.1.1 rfl
  unfold oneAt
  go_simp
  exact sx_call hI (rArgs_any r _ s T ⟨#[125]⟩ ⟨by decide, known_of (by decide)⟩ HUP.out W hr HE.out HK.out HTY.out)
 rintro ⟨q5, t5⟩
 rw [tyCall_f]
 unfold ndC
 go_simp
 apply wpMany_cons (t := tyRowA (fun b => w.heap.size < b) 2 (fun l => ∃ u, l = [t1, u] ∧ Got (argsR r ⟨#[125]⟩ T) σ7 u)) (tyRowA_good (fun b hb => ⟨by have := HT.out.rb; omega, fun e => by cases e⟩))
 case h1 =>
  intro W hI hl
  have h5 : IsT (fun b => w7.heap.size ≤ b) W q5 t5 ∧ RrAt r (after (argsR r ⟨#[125]⟩ T) σ7) s W ∧ Got (argsR r ⟨#[125]⟩ T) σ7 t5 := hl.2 ⟨4, .data⟩ (by simp) rfl
  have hvt0 := (HP.out.inv hI).val
  unfold oneAt
  go_simp
  exact sx_rowA [q1, q5] [t1, t5] hI (fun b hb => Nat.lt_of_lt_of_le HT.out.up hb) (by decide) (by decide) rfl rfl rfl (by decide) (by decide) (fun i a b => match i, a, b with | 0, _, _ => hvt0 | 1, _, _ => h5.1.mono (fun b hb => Nat.lt_of_lt_of_le HT.out.up hb) | i + 2, c, _ => absurd c (by simp)) (⟨t5, rfl, h5.2.2⟩)
 rintro ⟨g6, l6⟩
 rw [tyRowA_f]
 go_simp
 apply wpMany_nil (Ts := [])
 intro w20 hI hFa
 have h5 : IsT (fun b => w7.heap.size ≤ b) w20 q5 t5 ∧ RrAt r (after (argsR r ⟨#[125]⟩ T) σ7) s w20 ∧ Got (argsR r ⟨#[125]⟩ T) σ7 t5 := hFa 4
 have h6 : IsTs (fun b => w.heap.size < b) w20 (.slice (some ⟨g6, 0, none⟩) 2 2) l6 ∧ ∃ u, l6 = [t1, u] ∧ Got (argsR r ⟨#[125]⟩ T) σ7 u := hFa 5
 obtain ⟨hl6, u6, rfl, hg6⟩ := h6
 replace HD := Lib.hid (HD.out.step hg6)
 replace HT := Lib.hid (hI.st HT.out h5.2.1 (fun b e => by cases e))
 have HN := Lib.hid hl6
 clear hI hFa h5 hl6 hg6 HO HRW
 go_wp2_with fail
 refine (leaf_r 5 nm a (some ⟨g6, 0, none⟩) 2 2 _ HT.out.rr).mono ?_
 rintro e w22 ⟨rfl, hr, hm⟩
 replace HT := Lib.hid (HT.out.on hr hm)
 replace HN := Lib.hid (HN.out.but hm (fun a e q => by have e2 : a.block = r.b := e; have := HT.out.rb; omega))
 clear hr hm
 have HW := Lib.hid (HT.out.ret (q := ⟨5, nm, a, some ⟨g6, 0, none⟩, 2, 2⟩) (IsT.node _ _ _ HN.out))
 obtain ⟨d0, d1, d2, d3, f0⟩ := HT.out.res.cells
 try unfold ndC
 go_wp2_with fail
 obtain ⟨hcell, hist, hrr, hmv⟩ := HW.out
 exact bodyPost_ret (results_cellT rfl _ _ _ ⟨w.heap.size, 0, none⟩ _ rfl (load_node _ _ ⟨5, nm, a, some ⟨g6, 0, none⟩, 2, 2⟩ hcell)) rfl (HD.out.postP hist hrr hmv)
end Go.Proofs.YtgcaeimlmkkeoaaGreat
