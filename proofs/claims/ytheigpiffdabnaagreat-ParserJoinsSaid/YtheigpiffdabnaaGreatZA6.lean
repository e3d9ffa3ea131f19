/-
  PLAIN: the plain functions of exprs, blocks and items.
-/
import Derived.Test.YtheigpiffdabnaaGreatZA5
import Derived.Test.YtheigpiffdabnaaGreatZA1
set_option linter.unusedSimpArgs false
set_option linter.unusedVariables false
namespace Go.Proofs.YtheigpiffdabnaaGreat
open Go Go.RowKit
/-- signs between operands: what was read stands to the left -/
def chainM (r : Rdr) (part : PM Tree) (V : List ByteArray) : Nat → Tree → PM Tree
 | 0, _ => failM
 | f + 1, t => bindM (signM r V) fun sg => match sg.toList.isEmpty with
  | true => pureM t
  | false => bindM part fun u => chainM r part V f (.mk 28 sg t.at_ [t, u])
def chainP (r : Rdr) (part : PM Tree) (V : List ByteArray) : PM Tree := bindM part (chainM r part V (r.L.length + 1))
/-- what is between parentheses -/
def argumentsM (r : Rdr) (E : PM Tree) : PM (List Tree) := bindM (needM r ⟨#[40]⟩) fun _ => upToP r ⟨#[41]⟩ E
def namedM (r : Rdr) (E : PM Tree) : PM Tree := bindM (hereM r) fun a => bindM (nameM r) fun nm => bindM (isM r ⟨#[40]⟩) fun b => match b with
 | true => bindM (argumentsM r E) fun l => ndM 23 nm a l
 | false => bindM (tookM r ⟨#[33]⟩) fun c => match c with
  | true => bindM (argumentsM r E) fun l => ndM 24 nm a l
  | false => ndM 22 nm a []
def constructionM (r : Rdr) (E : PM Tree) : PM Tree := bindM (hereM r) fun a => bindM (needM r ⟨#[110, 101, 119]⟩) fun _ => bindM (nameM r) fun nm => bindM (argumentsM r E) fun l => ndM 25 nm a l
def parenM (r : Rdr) (E : PM Tree) : PM Tree := bindM (needM r ⟨#[40]⟩) fun _ => bindM E fun t => bindM (needM r ⟨#[41]⟩) fun _ => pureM t
def choiceM (r : Rdr) (E Bk : PM Tree) : PM Tree := bindM (hereM r) fun a => bindM (needM r ⟨#[105, 102]⟩) fun _ => bindM E fun c => bindM Bk fun y => bindM (needM r ⟨#[101, 108, 115, 101]⟩) fun _ => bindM Bk fun n => ndM 29 ⟨#[]⟩ a [c, y, n]
def storeM (r : Rdr) (E : PM Tree) (kd a : Int) : PM Tree := bindM (nameM r) fun nm => bindM (needM r ⟨#[61]⟩) fun _ => bindM E fun v => bindM (needM r ⟨#[59]⟩) fun _ => ndM kd nm a [v]
def letM (r : Rdr) (E : PM Tree) : PM Tree := bindM (hereM r) fun a => bindM (needM r ⟨#[108, 101, 116]⟩) fun _ => storeM r E 32 a
def assignM (r : Rdr) (E : PM Tree) : PM Tree := bindM (hereM r) fun a => storeM r E 33 a
def whileM (r : Rdr) (E Bk : PM Tree) : PM Tree := bindM (hereM r) fun a => bindM (needM r ⟨#[119, 104, 105, 108, 101]⟩) fun _ => bindM E fun c => bindM Bk fun b => ndM 34 ⟨#[]⟩ a [c, b]
def printM (r : Rdr) (E : PM Tree) : PM Tree := bindM (hereM r) fun a => bindM (needM r ⟨#[112, 114, 105, 110, 116]⟩) fun _ => bindM E fun v => bindM (needM r ⟨#[59]⟩) fun _ => ndM 35 ⟨#[]⟩ a [v]
/-- the text of the token behind the next one -/
def peekM (r : Rdr) : PM ByteArray := fun i => .ok ((r.L.getD (i + 1) tok0).text, i)
def valueM (r : Rdr) (E : PM Tree) : PM Tree := bindM E fun v => bindM (isM r ⟨#[125]⟩) fun b => match b with
 | true => pureM v
 | false => bindM (needM r ⟨#[59]⟩) fun _ => ndM 36 ⟨#[]⟩ v.at_ [v]
def isB (t u : ByteArray) : Bool := t.toList == u.toList
def stmtM (r : Rdr) (E Bk : PM Tree) : PM Tree := bindM (isM r ⟨#[108, 101, 116]⟩) fun b1 => match b1 with
 | true => letM r E
 | false => bindM (isM r ⟨#[119, 104, 105, 108, 101]⟩) fun b2 => match b2 with
  | true => whileM r E Bk
  | false => bindM (isM r ⟨#[112, 114, 105, 110, 116]⟩) fun b3 => match b3 with
   | true => printM r E
   | false => bindM (tokM r) fun x => match decide (x.kind = 1) with
    | false => valueM r E
    | true => bindM (peekM r) fun y => match isB y ⟨#[61]⟩ with
     | true => assignM r E
     | false => valueM r E
/-- the statements of a block, up to its end -/
def stmtsM (r : Rdr) (E Bk : PM Tree) : Nat → List Tree → PM (List Tree)
 | 0, _ => failM
 | f + 1, l => bindM (isM r ⟨#[125]⟩) fun b => match b with
  | true => pureM l
  | false => bindM (stmtM r E Bk) fun t => stmtsM r E Bk f (l ++ [t])
def isStmtK (k : Int) : Bool := k == 32 || k == 33 || k == 34 || k == 35 || k == 36
/-- a value is missing -/
def noValue (l : List Tree) : Bool := match l.getLast? with | none => true | some t => isStmtK t.kind
def blockM (r : Rdr) (E Bk : PM Tree) : PM Tree := bindM (hereM r) fun a => bindM (needM r ⟨#[123]⟩) fun _ => bindM (stmtsM r E Bk (r.L.length + 1) []) fun l => bindM (takeM r) fun x => ndM 30 ⟨#[]⟩ a (if noValue l = true then l ++ [.mk 31 ⟨#[]⟩ x.at_ []] else l)
def primaryM (r : Rdr) (E Bk : PM Tree) : PM Tree := bindM (tokM r) fun x =>
 if x.kind = 3 then bindM (takeM r) fun _ => ndM 20 x.text x.at_ []
 else if x.kind = 1 then namedM r E
 else if isB x.text ⟨#[116, 114, 117, 101]⟩ = true ∨ isB x.text ⟨#[102, 97, 108, 115, 101]⟩ = true then bindM (takeM r) fun _ => ndM 21 x.text x.at_ []
 else if isB x.text ⟨#[110, 101, 119]⟩ = true then constructionM r E
 else if isB x.text ⟨#[40]⟩ = true then parenM r E
 else if isB x.text ⟨#[105, 102]⟩ = true then choiceM r E Bk
 else if isB x.text ⟨#[123]⟩ = true then blockM r E Bk
 else failM
def dotsM (r : Rdr) : Nat → Tree → PM Tree
 | 0, _ => failM
 | f + 1, t => bindM (tookM r ⟨#[46]⟩) fun b => match b with
  | false => pureM t
  | true => bindM (nameM r) fun nm => dotsM r f (.mk 26 nm t.at_ [t])
def postM (r : Rdr) (E Bk : PM Tree) : PM Tree := bindM (primaryM r E Bk) (dotsM r (r.L.length + 1))
def Vun : List ByteArray := [⟨#[45]⟩, ⟨#[33]⟩]
def Vmul : List ByteArray := [⟨#[42]⟩, ⟨#[47]⟩, ⟨#[37]⟩]
def Vadd : List ByteArray := [⟨#[43]⟩, ⟨#[45]⟩]
def Vrel : List ByteArray := [⟨#[60]⟩, ⟨#[61, 61]⟩]
def Vand : List ByteArray := [⟨#[38, 38]⟩]
def Vor : List ByteArray := [⟨#[124, 124]⟩]
def unaryM (r : Rdr) (E Bk U : PM Tree) : PM Tree := bindM (hereM r) fun a => bindM (signM r Vun) fun sg => match sg.toList.isEmpty with
 | true => postM r E Bk
 | false => bindM U fun t => ndM 27 sg a [t]
def prodM (r : Rdr) (E Bk U : PM Tree) : PM Tree := chainP r (unaryM r E Bk U) Vmul
def sumM (r : Rdr) (E Bk U : PM Tree) : PM Tree := chainP r (prodM r E Bk U) Vadd
def relM (r : Rdr) (E Bk U : PM Tree) : PM Tree := bindM (sumM r E Bk U) fun t => bindM (signM r Vrel) fun sg => match sg.toList.isEmpty with
 | true => pureM t
 | false => bindM (sumM r E Bk U) fun u => pureM (.mk 28 sg t.at_ [t, u])
def andM (r : Rdr) (E Bk U : PM Tree) : PM Tree := chainP r (relM r E Bk U) Vand
def exprM (r : Rdr) (E Bk U : PM Tree) : PM Tree := chainP r (andM r E Bk U) Vor
/-- an expr, a block and an operand one level deeper, by the levels that are left -/
structure Sub where
 E : PM Tree
 B : PM Tree
 U : PM Tree
def subL (r : Rdr) : Nat → Sub
 | 0 => ⟨failM, failM, failM⟩
 | d + 1 => ⟨exprM r (subL r d).E (subL r d).B (subL r d).U, blockM r (subL r d).E (subL r d).B, unaryM r (subL r d).E (subL r d).B (subL r d).U⟩
-- items
def constantM (r : Rdr) (T E : PM Tree) : PM Tree := bindM (hereM r) fun a => bindM (needM r ⟨#[99, 111, 110, 115, 116]⟩) fun _ => bindM (nameM r) fun nm => bindM (needM r ⟨#[58]⟩) fun _ => bindM T fun o => bindM (needM r ⟨#[61]⟩) fun _ => bindM E fun v => bindM (needM r ⟨#[59]⟩) fun _ => ndM 3 nm a [o, v]
def argsC (r : Rdr) (T : PM Tree) : PM Tree := argsP r ⟨#[40]⟩ ⟨#[41]⟩ (argP r T)
def functionM (r : Rdr) (Ps T Bk : PM Tree) : PM Tree := bindM (hereM r) fun a => bindM (needM r ⟨#[102, 110]⟩) fun _ => bindM (nameM r) fun nm => bindM Ps fun p => bindM (argsC r T) fun q => bindM (resultP r T) fun o => bindM Bk fun b => ndM 4 nm a [p, q, o, b]
def recordM (r : Rdr) (T : PM Tree) : PM Tree := bindM (hereM r) fun a => bindM (needM r ⟨#[116, 121, 112, 101]⟩) fun _ => bindM (nameM r) fun nm => bindM (paramsP r) fun p => bindM (argsP r ⟨#[123]⟩ ⟨#[125]⟩ (argP r T)) fun q => ndM 5 nm a [p, q]
def sigM (r : Rdr) (T : PM Tree) : PM Tree := bindM (hereM r) fun a => bindM (needM r ⟨#[102, 110]⟩) fun _ => bindM (nameM r) fun nm => bindM (argsC r T) fun q => bindM (resultP r T) fun o => bindM (needM r ⟨#[59]⟩) fun _ => ndM 9 nm a [q, o]
/-- nodes with nothing between them, up to a mark -/
def allM (r : Rdr) (en : ByteArray) (part : PM Tree) : Nat → List Tree → PM (List Tree)
 | 0, _ => failM
 | f + 1, l => bindM (tookM r en) fun b => match b with
  | true => pureM l
  | false => bindM part fun t => allM r en part f (l ++ [t])
def allP (r : Rdr) (en : ByteArray) (part : PM Tree) : PM (List Tree) := allM r en part (r.L.length + 1) []
def traitM (r : Rdr) (T : PM Tree) : PM Tree := bindM (hereM r) fun a => bindM (needM r ⟨#[116, 114, 97, 105, 116]⟩) fun _ => bindM (nameM r) fun nm => bindM (supersP r) fun u => bindM (needM r ⟨#[123]⟩) fun _ => bindM (allP r ⟨#[125]⟩ (sigM r T)) fun l => ndM 6 nm a (u :: l)
def implM (r : Rdr) (T Bk : PM Tree) : PM Tree := bindM (hereM r) fun a => bindM (needM r ⟨#[105, 109, 112, 108]⟩) fun _ => bindM (paramsP r) fun p => bindM (nameM r) fun nm => bindM (needM r ⟨#[102, 111, 114]⟩) fun _ => bindM T fun t => bindM (needM r ⟨#[123]⟩) fun _ => bindM (allP r ⟨#[125]⟩ (functionM r (noParamsP r) T Bk)) fun l => ndM 7 nm a (p :: t :: l)
def macroM (r : Rdr) (E : PM Tree) : PM Tree := bindM (hereM r) fun a => bindM (needM r ⟨#[109, 97, 99, 114, 111]⟩) fun _ => bindM (nameM r) fun nm => bindM (argsP r ⟨#[40]⟩ ⟨#[41]⟩ (nameP r)) fun q => bindM (needM r ⟨#[61]⟩) fun _ => bindM E fun v => bindM (needM r ⟨#[59]⟩) fun _ => ndM 8 nm a [q, v]
theorem ups_if {α : Type} {c : Prop} [Decidable c] {p q : PM α} (hp : UpS p) (hq : UpS q) : UpS (if c then p else q) := by split <;> assumption
theorem up_peek (r : Rdr) : Up (peekM r) := fun i x j e => by unfold peekM at e; simp only [Except.ok.injEq, Prod.mk.injEq] at e; omega
theorem up_upTo {r : Rdr} {en : ByteArray} {part : PM Tree} (hp : Up part) : Up (upToP r en part) := fun i x j e => by
 unfold upToP at e
 split at e
 ·simp only [Except.ok.injEq, Prod.mk.injEq] at e; omega
 ·cases hl : listP r ⟨#[44]⟩ part (r.L.length + 1) i with
  | error k => rw [hl] at e; cases e
  | ok y =>
   obtain ⟨us, m⟩ := y
   rw [hl] at e
   simp only at e
   have h2 := listP_mono hp _ _ us m hl
   split at e
   ·simp only [Except.ok.injEq, Prod.mk.injEq] at e; omega
   ·cases e
theorem up_chain {r : Rdr} {part : PM Tree} {V : List ByteArray} (hp : Up part) : ∀ f t, Up (chainM r part V f t)
 | 0, t => ups_fail.up
 | f + 1, t => up_bind (up_sign r V) fun sg => by split; exact up_pure _; exact up_bind hp fun u => up_chain hp f _
theorem ups_chain {r : Rdr} {part : PM Tree} {V : List ByteArray} (hp : UpS part) : UpS (chainP r part V) := ups_bind hp fun t => up_chain hp.up _ t
theorem up_arguments {r : Rdr} {E : PM Tree} (hE : Up E) : Up (argumentsM r E) := up_bind (ups_need r _).up fun _ => up_upTo hE
theorem ups_named {r : Rdr} {E : PM Tree} (hE : Up E) : UpS (namedM r E) := ups_bind2 (up_here r) fun a => ups_bind (ups_name r) fun nm => up_bind (up_is r _) fun b => by
 split
 ·exact up_bind (up_arguments hE) fun l => up_nd _ _ _ _
 ·exact up_bind (up_took r _) fun c => by
   split
   ·exact up_bind (up_arguments hE) fun l => up_nd _ _ _ _
   ·exact up_nd _ _ _ _
theorem ups_construction {r : Rdr} {E : PM Tree} (hE : Up E) : UpS (constructionM r E) := ups_bind2 (up_here r) fun a => ups_bind (ups_need r _) fun _ => up_bind (ups_name r).up fun nm => up_bind (up_arguments hE) fun l => up_nd _ _ _ _
theorem ups_paren {r : Rdr} {E : PM Tree} (hE : Up E) : UpS (parenM r E) := ups_bind (ups_need r _) fun _ => up_bind hE fun t => up_bind (ups_need r _).up fun _ => up_pure _
theorem ups_choice {r : Rdr} {E Bk : PM Tree} (hE : Up E) (hB : Up Bk) : UpS (choiceM r E Bk) := ups_bind2 (up_here r) fun a => ups_bind (ups_need r _) fun _ => up_bind hE fun c => up_bind hB fun y => up_bind (ups_need r _).up fun _ => up_bind hB fun n => up_nd _ _ _ _
theorem ups_store {r : Rdr} {E : PM Tree} (hE : Up E) (k a : Int) : UpS (storeM r E k a) := ups_bind (ups_name r) fun nm => up_bind (ups_need r _).up fun _ => up_bind hE fun v => up_bind (ups_need r _).up fun _ => up_nd _ _ _ _
theorem ups_let {r : Rdr} {E : PM Tree} (hE : Up E) : UpS (letM r E) := ups_bind2 (up_here r) fun a => ups_bind2 (ups_need r _).up fun _ => ups_store hE _ _
theorem ups_assign {r : Rdr} {E : PM Tree} (hE : Up E) : UpS (assignM r E) := ups_bind2 (up_here r) fun a => ups_store hE _ _
theorem ups_while {r : Rdr} {E Bk : PM Tree} (hE : Up E) (hB : Up Bk) : UpS (whileM r E Bk) := ups_bind2 (up_here r) fun a => ups_bind (ups_need r _) fun _ => up_bind hE fun c => up_bind hB fun b => up_nd _ _ _ _
theorem ups_print {r : Rdr} {E : PM Tree} (hE : Up E) : UpS (printM r E) := ups_bind2 (up_here r) fun a => ups_bind (ups_need r _) fun _ => up_bind hE fun v => up_bind (ups_need r _).up fun _ => up_nd _ _ _ _
theorem ups_value {r : Rdr} {E : PM Tree} (hE : UpS E) : UpS (valueM r E) := ups_bind hE fun v => up_bind (up_is r _) fun b => by
 split
 ·exact up_pure _
 ·exact up_bind (ups_need r _).up fun _ => up_nd _ _ _ _
theorem ups_stmt {r : Rdr} {E Bk : PM Tree} (hE : UpS E) (hB : Up Bk) : UpS (stmtM r E Bk) := ups_bind2 (up_is r _) fun b1 => by
 split
 ·exact ups_let hE.up
 ·exact ups_bind2 (up_is r _) fun b2 => by
   split
   ·exact ups_while hE.up hB
   ·exact ups_bind2 (up_is r _) fun b3 => by
     split
     ·exact ups_print hE.up
     ·exact ups_bind2 (up_tok r) fun x => by
       split
       ·exact ups_value hE
       ·exact ups_bind2 (up_peek r) fun y => by
         split
         ·exact ups_assign hE.up
         ·exact ups_value hE
theorem up_stmts {r : Rdr} {E Bk : PM Tree} (hE : UpS E) (hB : Up Bk) : ∀ f l, Up (stmtsM r E Bk f l)
 | 0, l => ups_fail.up
 | f + 1, l => up_bind (up_is r _) fun b => by split; exact up_pure _; exact up_bind (ups_stmt hE hB).up fun u => up_stmts hE hB f _
theorem ups_block {r : Rdr} {E Bk : PM Tree} (hE : UpS E) (hB : Up Bk) : UpS (blockM r E Bk) := ups_bind2 (up_here r) fun a => ups_bind (ups_need r _) fun _ => up_bind (up_stmts hE hB _ _) fun l => up_bind (ups_take r).up fun x => up_nd _ _ _ _
theorem ups_primary {r : Rdr} {E Bk : PM Tree} (hE : UpS E) (hB : Up Bk) : UpS (primaryM r E Bk) := ups_bind2 (up_tok r) fun x =>
 ups_if (ups_bind (ups_take r) fun _ => up_nd _ _ _ _) (ups_if (ups_named hE.up) (ups_if (ups_bind (ups_take r) fun _ => up_nd _ _ _ _) (ups_if (ups_construction hE.up) (ups_if (ups_paren hE.up) (ups_if (ups_choice hE.up hB) (ups_if (ups_block hE hB) ups_fail))))))
theorem up_dots {r : Rdr} : ∀ f t, Up (dotsM r f t)
 | 0, t => ups_fail.up
 | f + 1, t => up_bind (up_took r _) fun b => by split; exact up_pure _; exact up_bind (ups_name r).up fun nm => up_dots f _
theorem ups_post {r : Rdr} {E Bk : PM Tree} (hE : UpS E) (hB : Up Bk) : UpS (postM r E Bk) := ups_bind (ups_primary hE hB) fun t => up_dots _ t
theorem ups_unary {r : Rdr} {E Bk U : PM Tree} (hE : UpS E) (hB : Up Bk) (hU : UpS U) : UpS (unaryM r E Bk U) := ups_bind2 (up_here r) fun a => ups_bind2 (up_sign r _) fun sg => by
 split
 ·exact ups_post hE hB
 ·exact ups_bind hU fun t => up_nd _ _ _ _
theorem ups_rel {r : Rdr} {E Bk U : PM Tree} (hE : UpS E) (hB : Up Bk) (hU : UpS U) : UpS (relM r E Bk U) := ups_bind (ups_chain (ups_chain (ups_unary hE hB hU))) fun t => up_bind (up_sign r _) fun sg => by
 split
 ·exact up_pure _
 ·exact up_bind (ups_chain (ups_chain (ups_unary hE hB hU))).up fun u => up_pure _
theorem ups_expr {r : Rdr} {E Bk U : PM Tree} (hE : UpS E) (hB : Up Bk) (hU : UpS U) : UpS (exprM r E Bk U) := ups_chain (ups_chain (ups_rel hE hB hU))
theorem ups_sub (r : Rdr) : ∀ d, UpS (subL r d).E ∧ UpS (subL r d).B ∧ UpS (subL r d).U
 | 0 => ⟨ups_fail, ups_fail, ups_fail⟩
 | d + 1 => by
  obtain ⟨h1, h2, h3⟩ := ups_sub r d
  exact ⟨ups_expr h1 h2.up h3, ups_block h1 h2.up, ups_unary h1 h2.up h3⟩
end Go.Proofs.YtheigpiffdabnaaGreat
namespace Go.Proofs.YtheigpiffdabnaaGreat
open Go Go.RowKit
set_option maxRecDepth 100000 in
set_option maxHeartbeats 1000000 in
theorem paren_any (r : Rdr) (i lv : Nat) (s : Bool) (E : PM Tree) (w : World) (h : RdAt r i lv s w) (hE : EndAt r)
  (HEX : ∀ a w1, RdAt r a lv s w1 → Calls Tryz.prog 61 #[.pointer (some ⟨r.b, 0, none⟩)] w1 (RulePost r (E a) lv s w1)) :
  Calls Tryz.prog 108 #[.pointer (some ⟨r.b, 0, none⟩)] w (RulePost r (parenM r E i) lv s w) := by
 have HRB : Hid (r.b < w.heap.size) := lt_heap h.cells
 have HR1 := Lib.hid (h.below (boxB w (.cells #[.int .i64 0, .string ⟨#[]⟩, .int .i64 0, .slice none 0 0] 37)))
 have HM1 := Lib.hid (Mv.of_below (r := r) (boxB w (.cells #[.int .i64 0, .string ⟨#[]⟩, .int .i64 0, .slice none 0 0] 37)))
 have HS1 := Lib.hid (ResAt.start w)
 generalize hX0 : parenM r E i = X
 unfold parenM at hX0
 have HX1 := Lib.hid hX0
 have HE := Lib.hid hE
 have HE1 := Lib.hid HEX
 clear hX0 h hE HEX
 go_enter Tryz.func108, Tryz.ntmps108
 go_wp2_with fail
 generalize w.alloc (.cells #[.int .i64 0, .string ⟨#[]⟩, .int .i64 0, .slice none 0 0] 37) = w1 at *
 refine (need_x r i lv s ⟨#[40]⟩ w1 HR1.out HE.out (by decide)).mono ?_
 rintro e w2 (⟨k, hx, rfl, hm⟩ | ⟨_, j2, hx, rfl, hr, hm⟩)
 ·have HM2 := Lib.hid (HM1.out.trans hm)
  have hX := bindM_err hx HX1.out
  clear hx hm
  subst hX
  unfold stopAt
  go_wp2_with fail
  exact ⟨rfl, rfl, HM2.out⟩
 have HX2 := Lib.hid (bindM_ok hx HX1.out)
 have HR2 := Lib.hid hr
 have HM2 := Lib.hid (HM1.out.trans hm)
 have HS2 := Lib.hid (HS1.out.mv hm HRB.out)
 clear hx hr hm HX1 HR1 HM1 HS1
 go_wp2_with fail
 refine (HE1.out j2 w2 HR2.out).mono ?_
 intro e w3 hp
 rcases (RulePost.two (p := E) hp) with ⟨k, hx, rfl, hm⟩ | ⟨t, j3, hx, q3, rfl, ht, hr, hm⟩
 ·have HM3 := Lib.hid (HM2.out.trans hm)
  have hX := bindM_err hx HX2.out
  clear hx hm
  subst hX
  unfold stopAt
  go_wp2_with fail
  exact ⟨rfl, rfl, HM3.out⟩
 have HX3 := Lib.hid (bindM_ok hx HX2.out)
 have HR3 := Lib.hid hr
 have HM3 := Lib.hid (HM2.out.trans hm)
 have HS3 := Lib.hid (HS2.out.mv hm HRB.out)
 have HTt3 : Hid (IsT (fun b => w.heap.size < b) w3 q3 t) := ht.mono (fun b hb => HS2.out.up hb)
 unfold ndC
 clear hp hx ht hr hm HX2 HR2 HM2 HS2
 go_wp2_with fail
 have hb := boxB w3 (.cells #[.int .i64 q3.kind, .string q3.text, .int .i64 q3.at_, .slice q3.p q3.n q3.cap] 37)
 have hm : Mv r w3 (w3.alloc (.cells #[.int .i64 q3.kind, .string q3.text, .int .i64 q3.at_, .slice q3.p q3.n q3.cap] 37)) := Mv.of_below hb
 have HX4 := HX3
 have HR4 := Lib.hid (HR3.out.below hb)
 have HM4 := Lib.hid (HM3.out.trans hm)
 have HS4 := Lib.hid (HS3.out.mv hm HRB.out)
 have HTt4 := Lib.hid (HTt3.out.mvB hm HRB.out)
 have HBt4 : Hid (BoxAt r w w3.heap.size q3 (w3.alloc (.cells #[.int .i64 q3.kind, .string q3.text, .int .i64 q3.at_, .slice q3.p q3.n q3.cap] 37))) := ⟨heap_alloc_new w3 _, HS3.out.up (Nat.le_refl _), HRB.out⟩
 clear hb hm HX3 HR3 HM3 HS3 HTt3
 obtain ⟨gt, hgt⟩ : ∃ g, w3.heap.size = g := ⟨_, rfl⟩
 rw [hgt] at HBt4
 generalize w3.alloc (.cells #[.int .i64 q3.kind, .string q3.text, .int .i64 q3.at_, .slice q3.p q3.n q3.cap] 37) = w4 at *
 rw [hgt]
 clear hgt
 refine (need_x r j3 lv s ⟨#[41]⟩ w4 HR4.out HE.out (by decide)).mono ?_
 rintro e w5 (⟨k, hx, rfl, hm⟩ | ⟨_, j5, hx, rfl, hr, hm⟩)
 ·have HM5 := Lib.hid (HM4.out.trans hm)
  have hX := bindM_err hx HX4.out
  clear hx hm
  subst hX
  unfold stopAt
  go_wp2_with fail
  exact ⟨rfl, rfl, HM5.out⟩
 have HX5 := Lib.hid (bindM_ok hx HX4.out)
 have HR5 := Lib.hid hr
 have HM5 := Lib.hid (HM4.out.trans hm)
 have HS5 := Lib.hid (HS4.out.mv hm HRB.out)
 have HTt5 := Lib.hid (HTt4.out.mvB hm HRB.out)
 have HBt5 := Lib.hid (HBt4.out.mvB hm HRB.out)
 clear hx hr hm HX4 HR4 HM4 HS4 HTt4 HBt4
 obtain ⟨b0t, b1t, b2t, b3t⟩ := HBt5.out.cells
 have HW := Lib.hid (res_world r j5 lv s w w5 q3 t HRB.out HM5.out HS5.out.z HTt5.out HR5.out)
 obtain ⟨d0, d1, d2, d3, f0⟩ := HS5.out.cells
 have hX : Except.ok (t, j5) = X := HX5.out
 clear HX5
 subst hX
 (try unfold ndC)
 go_wp2_with fail
 obtain ⟨hcell, hist, hrd, hmv⟩ := HW.out
 exact bodyPost_ret (results_cellT rfl _ _ _ ⟨w.heap.size, 0, none⟩ _ rfl (load_node _ _ q3 hcell)) rfl ⟨_, rfl, hist, hrd, hmv⟩
set_option maxRecDepth 100000 in
set_option maxHeartbeats 1000000 in
theorem arguments_any (r : Rdr) (i lv : Nat) (s : Bool) (E : PM Tree) (w : World) (h : RdAt r i lv s w) (hE : EndAt r)
  (HEX : ∀ a w1, RdAt r a lv s w1 → Calls Tryz.prog 61 #[.pointer (some ⟨r.b, 0, none⟩)] w1 (RulePost r (E a) lv s w1))
  (hup : Up E) :
  Calls Tryz.prog 110 #[.pointer (some ⟨r.b, 0, none⟩)] w (ListPost r (argumentsM r E i) lv s w) := by
 have HRB : Hid (r.b < w.heap.size) := lt_heap h.cells
 have HR1 := Lib.hid h
 have HM1 := Lib.hid (Mv.refl (r := r) w)
 generalize hX0 : argumentsM r E i = X
 unfold argumentsM at hX0
 have HX1 := Lib.hid hX0
 have HE := Lib.hid hE
 have HE1 := Lib.hid HEX
 have HUP := Lib.hid hup
 clear hX0 h hE HEX hup
 go_enter Tryz.func110, Tryz.ntmps110
 go_wp2_with fail
 refine (need_x r i lv s ⟨#[40]⟩ w HR1.out HE.out (by decide)).mono ?_
 rintro e w2 (⟨k, hx, rfl, hm⟩ | ⟨_, j2, hx, rfl, hr, hm⟩)
 ·have HM2 := Lib.hid (HM1.out.trans hm)
  have hX := bindM_err hx HX1.out
  clear hx hm
  subst hX
  unfold stopAt
  go_wp2_with fail
  exact ⟨rfl, rfl, HM2.out⟩
 have HX2 := Lib.hid (bindM_ok hx HX1.out)
 have HR2 := Lib.hid hr
 have HM2 := Lib.hid (HM1.out.trans hm)
 clear hx hr hm HX1 HR1 HM1
 go_wp2_with fail
 refine (listUpTo_any r j2 lv s ⟨#[41]⟩ 61 E w2 HR2.out HE.out (by decide) (fun args w => by kernel_rfl) HUP.out (fun a w1 h1 => HE1.out a w1 h1)).mono ?_
 intro e w3 hp
 rcases (ListPost.two (p := upToP r ⟨#[41]⟩ E) hp) with ⟨k, hx, rfl, hm⟩ | ⟨l, j3, hx, v3, rfl, ht, hr, hm⟩
 ·have HM3 := Lib.hid (HM2.out.trans hm)
  have hX := hx.symm.trans HX2.out
  clear hx hm hp
  subst hX
  unfold stopAt
  go_wp2_with fail
  exact ⟨rfl, rfl, HM3.out⟩
 ·have hX := hx.symm.trans HX2.out
  subst hX
  have HM3 := Lib.hid (HM2.out.trans hm)
  have HR3 := Lib.hid hr
  have HT3 : Hid (Nodes w.heap.size w3 v3 l) := ht.lower HM2.out.size
  clear hx hm hp ht hr
  go_wp2_with fail
  go_ret
  exact ⟨_, rfl, HT3.out, HR3.out, HM3.out⟩
set_option maxRecDepth 100000 in
set_option maxHeartbeats 1000000 in
theorem construction_any (r : Rdr) (i lv : Nat) (s : Bool) (E : PM Tree) (w : World) (h : RdAt r i lv s w) (hE : EndAt r)
  (HARG : ∀ a w1, RdAt r a lv s w1 → Calls Tryz.prog 110 #[.pointer (some ⟨r.b, 0, none⟩)] w1 (ListPost r (argumentsM r E a) lv s w1)) :
  Calls Tryz.prog 107 #[.pointer (some ⟨r.b, 0, none⟩)] w (RulePost r (constructionM r E i) lv s w) := by
 have HRB : Hid (r.b < w.heap.size) := lt_heap h.cells
 have HR1 := Lib.hid (h.below (boxB w (.cells #[.int .i64 0, .string ⟨#[]⟩, .int .i64 0, .slice none 0 0] 37)))
 have HM1 := Lib.hid (Mv.of_below (r := r) (boxB w (.cells #[.int .i64 0, .string ⟨#[]⟩, .int .i64 0, .slice none 0 0] 37)))
 have HS1 := Lib.hid (ResAt.start w)
 generalize hX0 : constructionM r E i = X
 unfold constructionM at hX0
 have HX1 := Lib.hid hX0
 have HE := Lib.hid hE
 have HAR := Lib.hid HARG
 clear hX0 h hE HARG
 go_enter Tryz.func107, Tryz.ntmps107
 go_wp2_with fail
 generalize w.alloc (.cells #[.int .i64 0, .string ⟨#[]⟩, .int .i64 0, .slice none 0 0] 37) = w1 at *
 refine (here_x r i lv s w1 HR1.out).mono ?_
 rintro e w2 ⟨a, j2, hx, rfl, hr, hm⟩
 have HX2 := Lib.hid (bindM_ok hx HX1.out)
 have HR2 := Lib.hid hr
 have HM2 := Lib.hid (HM1.out.trans hm)
 have HS2 := Lib.hid (HS1.out.mv hm HRB.out)
 clear hx hr hm HX1 HR1 HM1 HS1
 go_wp2_with fail
 refine (need_x r j2 lv s ⟨#[110, 101, 119]⟩ w2 HR2.out HE.out (by decide)).mono ?_
 rintro e w3 (⟨k, hx, rfl, hm⟩ | ⟨_, j3, hx, rfl, hr, hm⟩)
 ·have HM3 := Lib.hid (HM2.out.trans hm)
  have hX := bindM_err hx HX2.out
  clear hx hm
  subst hX
  unfold stopAt
  go_wp2_with fail
  exact ⟨rfl, rfl, HM3.out⟩
 have HX3 := Lib.hid (bindM_ok hx HX2.out)
 have HR3 := Lib.hid hr
 have HM3 := Lib.hid (HM2.out.trans hm)
 have HS3 := Lib.hid (HS2.out.mv hm HRB.out)
 clear hx hr hm HX2 HR2 HM2 HS2
 go_wp2_with fail
 refine (name_x r j3 lv s w3 HR3.out HE.out).mono ?_
 rintro e w4 (⟨k, hx, rfl, hm⟩ | ⟨nm, j4, hx, rfl, hr, hm⟩)
 ·have HM4 := Lib.hid (HM3.out.trans hm)
  have hX := bindM_err hx HX3.out
  clear hx hm
  subst hX
  unfold stopAt
  go_wp2_with fail
  exact ⟨rfl, rfl, HM4.out⟩
 have HX4 := Lib.hid (bindM_ok hx HX3.out)
 have HR4 := Lib.hid hr
 have HM4 := Lib.hid (HM3.out.trans hm)
 have HS4 := Lib.hid (HS3.out.mv hm HRB.out)
 clear hx hr hm HX3 HR3 HM3 HS3
 go_wp2_with fail
 refine (HAR.out j4 w4 HR4.out).mono ?_
 intro e w5 hp
 rcases (ListPost.two (p := argumentsM r E) hp) with ⟨k, hx, rfl, hm⟩ | ⟨l, j5, hx, v5, rfl, ht, hr, hm⟩
 ·have HM5 := Lib.hid (HM4.out.trans hm)
  have hX := bindM_err hx HX4.out
  clear hx hm
  subst hX
  unfold stopAt
  go_wp2_with fail
  exact ⟨rfl, rfl, HM5.out⟩
 have HX5 := Lib.hid (bindM_ok hx HX4.out)
 have HR5 := Lib.hid hr
 have HM5 := Lib.hid (HM4.out.trans hm)
 have HS5 := Lib.hid (HS4.out.mv hm HRB.out)
 obtain ⟨p5, c5, hve, hpc, hpb⟩ := ht.slice
 have HTl5 : Hid (IsTs (fun b => w.heap.size < b) w5 v5 l) := ht.list.mono (fun b hb => HS4.out.up hb)
 subst hve
 clear hpc hpb
 clear hp hx ht hr hm HX4 HR4 HM4 HS4
 go_wp2_with fail
 refine (node_any 25 nm a p5 (l.length) c5 w5).mono ?_
 rintro e w6 ⟨rfl, hb⟩
 have hm : Mv r w5 w6 := Mv.of_below hb
 have HX6 := HX5
 have HR6 := Lib.hid (HR5.out.below hb)
 have HM6 := Lib.hid (HM5.out.trans hm)
 have HS6 := Lib.hid (HS5.out.mv hm HRB.out)
 have HTl6 := Lib.hid (HTl5.out.mvB hm HRB.out)
 clear hb hm HX5 HR5 HM5 HS5 HTl5
 have HW := Lib.hid (res_world r j5 lv s w w6 ⟨25, nm, a, p5, l.length, c5⟩ (.mk 25 nm a l) HRB.out HM6.out HS6.out.z (IsT.node _ _ _ HTl6.out) HR6.out)
 obtain ⟨d0, d1, d2, d3, f0⟩ := HS6.out.cells
 have hX : Except.ok ((.mk 25 nm a l), j5) = X := HX6.out
 clear HX6
 subst hX
 (try unfold ndC)
 go_wp2_with fail
 obtain ⟨hcell, hist, hrd, hmv⟩ := HW.out
 exact bodyPost_ret (results_cellT rfl _ _ _ ⟨w.heap.size, 0, none⟩ _ rfl (load_node _ _ ⟨25, nm, a, p5, l.length, c5⟩ hcell)) rfl ⟨_, rfl, hist, hrd, hmv⟩
set_option maxRecDepth 100000 in
set_option maxHeartbeats 1000000 in
theorem named_any (r : Rdr) (i lv : Nat) (s : Bool) (E : PM Tree) (w : World) (h : RdAt r i lv s w) (hE : EndAt r)
  (HARG : ∀ a w1, RdAt r a lv s w1 → Calls Tryz.prog 110 #[.pointer (some ⟨r.b, 0, none⟩)] w1 (ListPost r (argumentsM r E a) lv s w1)) :
  Calls Tryz.prog 106 #[.pointer (some ⟨r.b, 0, none⟩)] w (RulePost r (namedM r E i) lv s w) := by
 have HRB : Hid (r.b < w.heap.size) := lt_heap h.cells
 have HR1 := Lib.hid (h.below (boxB w (.cells #[.int .i64 0, .string ⟨#[]⟩, .int .i64 0, .slice none 0 0] 37)))
 have HM1 := Lib.hid (Mv.of_below (r := r) (boxB w (.cells #[.int .i64 0, .string ⟨#[]⟩, .int .i64 0, .slice none 0 0] 37)))
 have HS1 := Lib.hid (ResAt.start w)
 generalize hX0 : namedM r E i = X
 unfold namedM at hX0
 have HX1 := Lib.hid hX0
 have HE := Lib.hid hE
 have HAR := Lib.hid HARG
 clear hX0 h hE HARG
 go_enter Tryz.func106, Tryz.ntmps106
 go_wp2_with fail
 generalize w.alloc (.cells #[.int .i64 0, .string ⟨#[]⟩, .int .i64 0, .slice none 0 0] 37) = w1 at *
 refine (here_x r i lv s w1 HR1.out).mono ?_
 rintro e w2 ⟨a, j2, hx, rfl, hr, hm⟩
 have HX2 := Lib.hid (bindM_ok hx HX1.out)
 have HR2 := Lib.hid hr
 have HM2 := Lib.hid (HM1.out.trans hm)
 have HS2 := Lib.hid (HS1.out.mv hm HRB.out)
 clear hx hr hm HX1 HR1 HM1 HS1
 go_wp2_with fail
 refine (name_x r j2 lv s w2 HR2.out HE.out).mono ?_
 rintro e w3 (⟨k, hx, rfl, hm⟩ | ⟨nm, j3, hx, rfl, hr, hm⟩)
 ·have HM3 := Lib.hid (HM2.out.trans hm)
  have hX := bindM_err hx HX2.out
  clear hx hm
  subst hX
  unfold stopAt
  go_wp2_with fail
  exact ⟨rfl, rfl, HM3.out⟩
 have HX3 := Lib.hid (bindM_ok hx HX2.out)
 have HR3 := Lib.hid hr
 have HM3 := Lib.hid (HM2.out.trans hm)
 have HS3 := Lib.hid (HS2.out.mv hm HRB.out)
 clear hx hr hm HX2 HR2 HM2 HS2
 go_wp2_with fail
 refine (is_x r j3 lv s ⟨#[40]⟩ w3 HR3.out).mono ?_
 rintro e w4 ⟨b, j4, hx, rfl, hr, hm⟩
 have HX4 := Lib.hid (bindM_ok hx HX3.out)
 have HR4 := Lib.hid hr
 have HM4 := Lib.hid (HM3.out.trans hm)
 have HS4 := Lib.hid (HS3.out.mv hm HRB.out)
 clear hx hr hm HX3 HR3 HM3 HS3
 cases b
 ·go_wp2_with fail
  refine (took_x r j4 lv s ⟨#[33]⟩ w4 HR4.out HE.out (by decide)).mono ?_
  rintro e w5 ⟨c, j5, hx, rfl, hr, hm⟩
  have HX5 := Lib.hid (bindM_ok hx HX4.out)
  have HR5 := Lib.hid hr
  have HM5 := Lib.hid (HM4.out.trans hm)
  have HS5 := Lib.hid (HS4.out.mv hm HRB.out)
  clear hx hr hm HX4 HR4 HM4 HS4
  cases c
  ·go_wp2_with fail
   refine (node_any 22 nm a none 0 0 w5).mono ?_
   rintro e w6 ⟨rfl, hb⟩
   have hm : Mv r w5 w6 := Mv.of_below hb
   have HX6 := HX5
   have HR6 := Lib.hid (HR5.out.below hb)
   have HM6 := Lib.hid (HM5.out.trans hm)
   have HS6 := Lib.hid (HS5.out.mv hm HRB.out)
   clear hb hm HX5 HR5 HM5 HS5
   have HW := Lib.hid (res_world r j5 lv s w w6 ⟨22, nm, a, none, 0, 0⟩ (.mk 22 nm a []) HRB.out HM6.out HS6.out.z (IsT.leaf _ _ _ _ _) HR6.out)
   obtain ⟨d0, d1, d2, d3, f0⟩ := HS6.out.cells
   have hX : Except.ok ((.mk 22 nm a []), j5) = X := HX6.out
   clear HX6
   subst hX
   (try unfold ndC)
   go_wp2_with fail
   obtain ⟨hcell, hist, hrd, hmv⟩ := HW.out
   exact bodyPost_ret (results_cellT rfl _ _ _ ⟨w.heap.size, 0, none⟩ _ rfl (load_node _ _ ⟨22, nm, a, none, 0, 0⟩ hcell)) rfl ⟨_, rfl, hist, hrd, hmv⟩
  ·go_wp2_with fail
   refine (HAR.out j5 w5 HR5.out).mono ?_
   intro e w7 hp
   rcases (ListPost.two (p := argumentsM r E) hp) with ⟨k, hx, rfl, hm⟩ | ⟨l, j7, hx, v7, rfl, ht, hr, hm⟩
   ·have HM7 := Lib.hid (HM5.out.trans hm)
    have hX := bindM_err hx HX5.out
    clear hx hm
    subst hX
    unfold stopAt
    go_wp2_with fail
    exact ⟨rfl, rfl, HM7.out⟩
   have HX7 := Lib.hid (bindM_ok hx HX5.out)
   have HR7 := Lib.hid hr
   have HM7 := Lib.hid (HM5.out.trans hm)
   have HS7 := Lib.hid (HS5.out.mv hm HRB.out)
   obtain ⟨p7, c7, hve, hpc, hpb⟩ := ht.slice
   have HTl7 : Hid (IsTs (fun b => w.heap.size < b) w7 v7 l) := ht.list.mono (fun b hb => HS5.out.up hb)
   subst hve
   clear hpc hpb
   clear hp hx ht hr hm HX5 HR5 HM5 HS5
   go_wp2_with fail
   refine (node_any 24 nm a p7 (l.length) c7 w7).mono ?_
   rintro e w8 ⟨rfl, hb⟩
   have hm : Mv r w7 w8 := Mv.of_below hb
   have HX8 := HX7
   have HR8 := Lib.hid (HR7.out.below hb)
   have HM8 := Lib.hid (HM7.out.trans hm)
   have HS8 := Lib.hid (HS7.out.mv hm HRB.out)
   have HTl8 := Lib.hid (HTl7.out.mvB hm HRB.out)
   clear hb hm HX7 HR7 HM7 HS7 HTl7
   have HW := Lib.hid (res_world r j7 lv s w w8 ⟨24, nm, a, p7, l.length, c7⟩ (.mk 24 nm a l) HRB.out HM8.out HS8.out.z (IsT.node _ _ _ HTl8.out) HR8.out)
   obtain ⟨d0, d1, d2, d3, f0⟩ := HS8.out.cells
   have hX : Except.ok ((.mk 24 nm a l), j7) = X := HX8.out
   clear HX8
   subst hX
   (try unfold ndC)
   go_wp2_with fail
   obtain ⟨hcell, hist, hrd, hmv⟩ := HW.out
   exact bodyPost_ret (results_cellT rfl _ _ _ ⟨w.heap.size, 0, none⟩ _ rfl (load_node _ _ ⟨24, nm, a, p7, l.length, c7⟩ hcell)) rfl ⟨_, rfl, hist, hrd, hmv⟩
 ·go_wp2_with fail
  refine (HAR.out j4 w4 HR4.out).mono ?_
  intro e w9 hp
  rcases (ListPost.two (p := argumentsM r E) hp) with ⟨k, hx, rfl, hm⟩ | ⟨l, j9, hx, v9, rfl, ht, hr, hm⟩
  ·have HM9 := Lib.hid (HM4.out.trans hm)
   have hX := bindM_err hx HX4.out
   clear hx hm
   subst hX
   unfold stopAt
   go_wp2_with fail
   exact ⟨rfl, rfl, HM9.out⟩
  have HX9 := Lib.hid (bindM_ok hx HX4.out)
  have HR9 := Lib.hid hr
  have HM9 := Lib.hid (HM4.out.trans hm)
  have HS9 := Lib.hid (HS4.out.mv hm HRB.out)
  obtain ⟨p9, c9, hve, hpc, hpb⟩ := ht.slice
  have HTl9 : Hid (IsTs (fun b => w.heap.size < b) w9 v9 l) := ht.list.mono (fun b hb => HS4.out.up hb)
  subst hve
  clear hpc hpb
  clear hp hx ht hr hm HX4 HR4 HM4 HS4
  go_wp2_with fail
  refine (node_any 23 nm a p9 (l.length) c9 w9).mono ?_
  rintro e w10 ⟨rfl, hb⟩
  have hm : Mv r w9 w10 := Mv.of_below hb
  have HX10 := HX9
  have HR10 := Lib.hid (HR9.out.below hb)
  have HM10 := Lib.hid (HM9.out.trans hm)
  have HS10 := Lib.hid (HS9.out.mv hm HRB.out)
  have HTl10 := Lib.hid (HTl9.out.mvB hm HRB.out)
  clear hb hm HX9 HR9 HM9 HS9 HTl9
  have HW := Lib.hid (res_world r j9 lv s w w10 ⟨23, nm, a, p9, l.length, c9⟩ (.mk 23 nm a l) HRB.out HM10.out HS10.out.z (IsT.node _ _ _ HTl10.out) HR10.out)
  obtain ⟨d0, d1, d2, d3, f0⟩ := HS10.out.cells
  have hX : Except.ok ((.mk 23 nm a l), j9) = X := HX10.out
  clear HX10
  subst hX
  (try unfold ndC)
  go_wp2_with fail
  obtain ⟨hcell, hist, hrd, hmv⟩ := HW.out
  exact bodyPost_ret (results_cellT rfl _ _ _ ⟨w.heap.size, 0, none⟩ _ rfl (load_node _ _ ⟨23, nm, a, p9, l.length, c9⟩ hcell)) rfl ⟨_, rfl, hist, hrd, hmv⟩
set_option maxRecDepth 100000 in
set_option maxHeartbeats 1000000 in
theorem store_any (r : Rdr) (i lv : Nat) (s : Bool) (E : PM Tree) (kd a0 : Int) (w : World) (h : RdAt r i lv s w) (hE : EndAt r)
  (HEX : ∀ a w1, RdAt r a lv s w1 → Calls Tryz.prog 61 #[.pointer (some ⟨r.b, 0, none⟩)] w1 (RulePost r (E a) lv s w1)) :
  Calls Tryz.prog 102 #[.pointer (some ⟨r.b, 0, none⟩), .int .i64 kd, .int .i64 a0] w (RulePost r (storeM r E kd a0 i) lv s w) := by
 have HRB : Hid (r.b < w.heap.size) := lt_heap h.cells
 have HR1 := Lib.hid (h.below (boxB w (.cells #[.int .i64 0, .string ⟨#[]⟩, .int .i64 0, .slice none 0 0] 37)))
 have HM1 := Lib.hid (Mv.of_below (r := r) (boxB w (.cells #[.int .i64 0, .string ⟨#[]⟩, .int .i64 0, .slice none 0 0] 37)))
 have HS1 := Lib.hid (ResAt.start w)
 generalize hX0 : storeM r E kd a0 i = X
 unfold storeM at hX0
 have HX1 := Lib.hid hX0
 have HE := Lib.hid hE
 have HE1 := Lib.hid HEX
 clear hX0 h hE HEX
 go_enter Tryz.func102, Tryz.ntmps102
 go_wp2_with fail
 generalize w.alloc (.cells #[.int .i64 0, .string ⟨#[]⟩, .int .i64 0, .slice none 0 0] 37) = w1 at *
 refine (name_x r i lv s w1 HR1.out HE.out).mono ?_
 rintro e w2 (⟨k, hx, rfl, hm⟩ | ⟨nm, j2, hx, rfl, hr, hm⟩)
 ·have HM2 := Lib.hid (HM1.out.trans hm)
  have hX := bindM_err hx HX1.out
  clear hx hm
  subst hX
  unfold stopAt
  go_wp2_with fail
  exact ⟨rfl, rfl, HM2.out⟩
 have HX2 := Lib.hid (bindM_ok hx HX1.out)
 have HR2 := Lib.hid hr
 have HM2 := Lib.hid (HM1.out.trans hm)
 have HS2 := Lib.hid (HS1.out.mv hm HRB.out)
 clear hx hr hm HX1 HR1 HM1 HS1
 go_wp2_with fail
 refine (need_x r j2 lv s ⟨#[61]⟩ w2 HR2.out HE.out (by decide)).mono ?_
 rintro e w3 (⟨k, hx, rfl, hm⟩ | ⟨_, j3, hx, rfl, hr, hm⟩)
 ·have HM3 := Lib.hid (HM2.out.trans hm)
  have hX := bindM_err hx HX2.out
  clear hx hm
  subst hX
  unfold stopAt
  go_wp2_with fail
  exact ⟨rfl, rfl, HM3.out⟩
 have HX3 := Lib.hid (bindM_ok hx HX2.out)
 have HR3 := Lib.hid hr
 have HM3 := Lib.hid (HM2.out.trans hm)
 have HS3 := Lib.hid (HS2.out.mv hm HRB.out)
 clear hx hr hm HX2 HR2 HM2 HS2
 go_wp2_with fail
 refine (HE1.out j3 w3 HR3.out).mono ?_
 intro e w4 hp
 rcases (RulePost.two (p := E) hp) with ⟨k, hx, rfl, hm⟩ | ⟨v, j4, hx, q4, rfl, ht, hr, hm⟩
 ·have HM4 := Lib.hid (HM3.out.trans hm)
  have hX := bindM_err hx HX3.out
  clear hx hm
  subst hX
  unfold stopAt
  go_wp2_with fail
  exact ⟨rfl, rfl, HM4.out⟩
 have HX4 := Lib.hid (bindM_ok hx HX3.out)
 have HR4 := Lib.hid hr
 have HM4 := Lib.hid (HM3.out.trans hm)
 have HS4 := Lib.hid (HS3.out.mv hm HRB.out)
 have HTv4 : Hid (IsT (fun b => w.heap.size < b) w4 q4 v) := ht.mono (fun b hb => HS3.out.up hb)
 unfold ndC
 clear hp hx ht hr hm HX3 HR3 HM3 HS3
 go_wp2_with fail
 have hb := boxB w4 (.cells #[.int .i64 q4.kind, .string q4.text, .int .i64 q4.at_, .slice q4.p q4.n q4.cap] 37)
 have hm : Mv r w4 (w4.alloc (.cells #[.int .i64 q4.kind, .string q4.text, .int .i64 q4.at_, .slice q4.p q4.n q4.cap] 37)) := Mv.of_below hb
 have HX5 := HX4
 have HR5 := Lib.hid (HR4.out.below hb)
 have HM5 := Lib.hid (HM4.out.trans hm)
 have HS5 := Lib.hid (HS4.out.mv hm HRB.out)
 have HTv5 := Lib.hid (HTv4.out.mvB hm HRB.out)
 have HBv5 : Hid (BoxAt r w w4.heap.size q4 (w4.alloc (.cells #[.int .i64 q4.kind, .string q4.text, .int .i64 q4.at_, .slice q4.p q4.n q4.cap] 37))) := ⟨heap_alloc_new w4 _, HS4.out.up (Nat.le_refl _), HRB.out⟩
 clear hb hm HX4 HR4 HM4 HS4 HTv4
 obtain ⟨gv, hgv⟩ : ∃ g, w4.heap.size = g := ⟨_, rfl⟩
 rw [hgv] at HBv5
 generalize w4.alloc (.cells #[.int .i64 q4.kind, .string q4.text, .int .i64 q4.at_, .slice q4.p q4.n q4.cap] 37) = w5 at *
 rw [hgv]
 clear hgv
 refine (need_x r j4 lv s ⟨#[59]⟩ w5 HR5.out HE.out (by decide)).mono ?_
 rintro e w6 (⟨k, hx, rfl, hm⟩ | ⟨_, j6, hx, rfl, hr, hm⟩)
 ·have HM6 := Lib.hid (HM5.out.trans hm)
  have hX := bindM_err hx HX5.out
  clear hx hm
  subst hX
  unfold stopAt
  go_wp2_with fail
  exact ⟨rfl, rfl, HM6.out⟩
 have HX6 := Lib.hid (bindM_ok hx HX5.out)
 have HR6 := Lib.hid hr
 have HM6 := Lib.hid (HM5.out.trans hm)
 have HS6 := Lib.hid (HS5.out.mv hm HRB.out)
 have HTv6 := Lib.hid (HTv5.out.mvB hm HRB.out)
 have HBv6 := Lib.hid (HBv5.out.mvB hm HRB.out)
 clear hx hr hm HX5 HR5 HM5 HS5 HTv5 HBv5
 obtain ⟨b0v, b1v, b2v, b3v⟩ := HBv6.out.cells
 go_wp2_with fail
 have hb := boxB w6 (.cells #[.int .i64 q4.kind, .string q4.text, .int .i64 q4.at_, .slice q4.p q4.n q4.cap] 37)
 have hm : Mv r w6 (w6.alloc (.cells #[.int .i64 q4.kind, .string q4.text, .int .i64 q4.at_, .slice q4.p q4.n q4.cap] 37)) := Mv.of_below hb
 have HR7 := Lib.hid (HR6.out.below hb)
 have HM7 := Lib.hid (HM6.out.trans hm)
 have HS7 := Lib.hid (HS6.out.mv hm HRB.out)
 have hlt := lt_heap HS6.out.z
 have HL7 : Hid (IsTs (fun b => w.heap.size < b) (w6.alloc (.cells #[.int .i64 q4.kind, .string q4.text, .int .i64 q4.at_, .slice q4.p q4.n q4.cap] 37)) (.slice (some ⟨w6.heap.size, 0, none⟩) 1 1) [v]) := by
  refine IsTs.row _ [q4] _ rfl rfl rfl (by decide) (by decide) hlt (fun i h1 h2 => ?_)
  match i, h1, h2 with
  | 0, _, _ => exact HTv6.out
  | i + 1, h1, _ => exact absurd h1 (by simp)
 clear hb hm hlt HR6 HM6 HS6 HTv6 HBv6
 have HX7 := HX6
 clear HX6
 obtain ⟨g7, hg7⟩ : ∃ g, w6.heap.size = g := ⟨_, rfl⟩
 clear hg7
 generalize w6.alloc (.cells #[.int .i64 q4.kind, .string q4.text, .int .i64 q4.at_, .slice q4.p q4.n q4.cap] 37) = w7 at *
 refine (node_any kd nm a0 (some ⟨w6.heap.size, 0, none⟩) 1 1 w7).mono ?_
 rintro e w8 ⟨rfl, hb⟩
 have hm : Mv r w7 w8 := Mv.of_below hb
 have HX8 := HX7
 have HR8 := Lib.hid (HR7.out.below hb)
 have HM8 := Lib.hid (HM7.out.trans hm)
 have HS8 := Lib.hid (HS7.out.mv hm HRB.out)
 have HL8 := Lib.hid (HL7.out.mvB hm HRB.out)
 clear hb hm HX7 HR7 HM7 HS7 HL7
 have HW := Lib.hid (res_world r j6 lv s w w8 ⟨kd, nm, a0, some ⟨w6.heap.size, 0, none⟩, 1, 1⟩ (.mk kd nm a0 [v]) HRB.out HM8.out HS8.out.z (IsT.node _ _ _ HL8.out) HR8.out)
 obtain ⟨d0, d1, d2, d3, f0⟩ := HS8.out.cells
 have hX : Except.ok ((.mk kd nm a0 [v]), j6) = X := HX8.out
 clear HX8
 subst hX
 (try unfold ndC)
 go_wp2_with fail
 obtain ⟨hcell, hist, hrd, hmv⟩ := HW.out
 exact bodyPost_ret (results_cellT rfl _ _ _ ⟨w.heap.size, 0, none⟩ _ rfl (load_node _ _ ⟨kd, nm, a0, some ⟨w6.heap.size, 0, none⟩, 1, 1⟩ hcell)) rfl ⟨_, rfl, hist, hrd, hmv⟩
set_option maxRecDepth 100000 in
set_option maxHeartbeats 1000000 in
theorem let_any (r : Rdr) (i lv : Nat) (s : Bool) (E : PM Tree) (w : World) (h : RdAt r i lv s w) (hE : EndAt r)
  (HST : ∀ kd a0 a w1, RdAt r a lv s w1 → Calls Tryz.prog 102 #[.pointer (some ⟨r.b, 0, none⟩), .int .i64 kd, .int .i64 a0] w1 (RulePost r (storeM r E kd a0 a) lv s w1)) :
  Calls Tryz.prog 97 #[.pointer (some ⟨r.b, 0, none⟩)] w (RulePost r (letM r E i) lv s w) := by
 have HRB : Hid (r.b < w.heap.size) := lt_heap h.cells
 have HR1 := Lib.hid (h.below (boxB w (.cells #[.int .i64 0, .string ⟨#[]⟩, .int .i64 0, .slice none 0 0] 37)))
 have HM1 := Lib.hid (Mv.of_below (r := r) (boxB w (.cells #[.int .i64 0, .string ⟨#[]⟩, .int .i64 0, .slice none 0 0] 37)))
 have HS1 := Lib.hid (ResAt.start w)
 generalize hX0 : letM r E i = X
 unfold letM at hX0
 have HX1 := Lib.hid hX0
 have HE := Lib.hid hE
 have HSO := Lib.hid HST
 clear hX0 h hE HST
 go_enter Tryz.func97, Tryz.ntmps97
 go_wp2_with fail
 generalize w.alloc (.cells #[.int .i64 0, .string ⟨#[]⟩, .int .i64 0, .slice none 0 0] 37) = w1 at *
 refine (here_x r i lv s w1 HR1.out).mono ?_
 rintro e w2 ⟨a, j2, hx, rfl, hr, hm⟩
 have HX2 := Lib.hid (bindM_ok hx HX1.out)
 have HR2 := Lib.hid hr
 have HM2 := Lib.hid (HM1.out.trans hm)
 have HS2 := Lib.hid (HS1.out.mv hm HRB.out)
 clear hx hr hm HX1 HR1 HM1 HS1
 go_wp2_with fail
 refine (need_x r j2 lv s ⟨#[108, 101, 116]⟩ w2 HR2.out HE.out (by decide)).mono ?_
 rintro e w3 (⟨k, hx, rfl, hm⟩ | ⟨_, j3, hx, rfl, hr, hm⟩)
 ·have HM3 := Lib.hid (HM2.out.trans hm)
  have hX := bindM_err hx HX2.out
  clear hx hm
  subst hX
  unfold stopAt
  go_wp2_with fail
  exact ⟨rfl, rfl, HM3.out⟩
 have HX3 := Lib.hid (bindM_ok hx HX2.out)
 have HR3 := Lib.hid hr
 have HM3 := Lib.hid (HM2.out.trans hm)
 have HS3 := Lib.hid (HS2.out.mv hm HRB.out)
 clear hx hr hm HX2 HR2 HM2 HS2
 go_wp2_with fail
 refine (HSO.out 32 a j3 w3 HR3.out).mono ?_
 intro e w4 hp
 rcases (RulePost.two (p := storeM r E 32 a) hp) with ⟨k, hx, rfl, hm⟩ | ⟨t, j4, hx, q4, rfl, ht, hr, hm⟩
 ·have HM4 := Lib.hid (HM3.out.trans hm)
  have hX := hx.symm.trans HX3.out
  clear hx hm hp
  subst hX
  unfold stopAt
  go_wp2_with fail
  exact ⟨rfl, rfl, HM4.out⟩
 have HX4 := Lib.hid ((hx.symm.trans HX3.out) : Except.ok (t, j4) = X)
 have HR4 := Lib.hid hr
 have HM4 := Lib.hid (HM3.out.trans hm)
 have HS4 := Lib.hid (HS3.out.mv hm HRB.out)
 have HTt4 : Hid (IsT (fun b => w.heap.size < b) w4 q4 t) := ht.mono (fun b hb => HS3.out.up hb)
 unfold ndC
 clear hp hx ht hr hm HX3 HR3 HM3 HS3
 have HW := Lib.hid (res_world r j4 lv s w w4 q4 t HRB.out HM4.out HS4.out.z HTt4.out HR4.out)
 obtain ⟨d0, d1, d2, d3, f0⟩ := HS4.out.cells
 have hX : Except.ok (t, j4) = X := HX4.out
 clear HX4
 subst hX
 (try unfold ndC)
 go_wp2_with fail
 obtain ⟨hcell, hist, hrd, hmv⟩ := HW.out
 exact bodyPost_ret (results_cellT rfl _ _ _ ⟨w.heap.size, 0, none⟩ _ rfl (load_node _ _ q4 hcell)) rfl ⟨_, rfl, hist, hrd, hmv⟩
set_option maxRecDepth 100000 in
set_option maxHeartbeats 1000000 in
theorem assign_any (r : Rdr) (i lv : Nat) (s : Bool) (E : PM Tree) (w : World) (h : RdAt r i lv s w) (hE : EndAt r)
  (HST : ∀ kd a0 a w1, RdAt r a lv s w1 → Calls Tryz.prog 102 #[.pointer (some ⟨r.b, 0, none⟩), .int .i64 kd, .int .i64 a0] w1 (RulePost r (storeM r E kd a0 a) lv s w1)) :
  Calls Tryz.prog 100 #[.pointer (some ⟨r.b, 0, none⟩)] w (RulePost r (assignM r E i) lv s w) := by
 have HRB : Hid (r.b < w.heap.size) := lt_heap h.cells
 have HR1 := Lib.hid (h.below (boxB w (.cells #[.int .i64 0, .string ⟨#[]⟩, .int .i64 0, .slice none 0 0] 37)))
 have HM1 := Lib.hid (Mv.of_below (r := r) (boxB w (.cells #[.int .i64 0, .string ⟨#[]⟩, .int .i64 0, .slice none 0 0] 37)))
 have HS1 := Lib.hid (ResAt.start w)
 generalize hX0 : assignM r E i = X
 unfold assignM at hX0
 have HX1 := Lib.hid hX0
 have HE := Lib.hid hE
 have HSO := Lib.hid HST
 clear hX0 h hE HST
 go_enter Tryz.func100, Tryz.ntmps100
 go_wp2_with fail
 generalize w.alloc (.cells #[.int .i64 0, .string ⟨#[]⟩, .int .i64 0, .slice none 0 0] 37) = w1 at *
 refine (here_x r i lv s w1 HR1.out).mono ?_
 rintro e w2 ⟨a, j2, hx, rfl, hr, hm⟩
 have HX2 := Lib.hid (bindM_ok hx HX1.out)
 have HR2 := Lib.hid hr
 have HM2 := Lib.hid (HM1.out.trans hm)
 have HS2 := Lib.hid (HS1.out.mv hm HRB.out)
 clear hx hr hm HX1 HR1 HM1 HS1
 go_wp2_with fail
 refine (HSO.out 33 a j2 w2 HR2.out).mono ?_
 intro e w3 hp
 rcases (RulePost.two (p := storeM r E 33 a) hp) with ⟨k, hx, rfl, hm⟩ | ⟨t, j3, hx, q3, rfl, ht, hr, hm⟩
 ·have HM3 := Lib.hid (HM2.out.trans hm)
  have hX := hx.symm.trans HX2.out
  clear hx hm hp
  subst hX
  unfold stopAt
  go_wp2_with fail
  exact ⟨rfl, rfl, HM3.out⟩
 have HX3 := Lib.hid ((hx.symm.trans HX2.out) : Except.ok (t, j3) = X)
 have HR3 := Lib.hid hr
 have HM3 := Lib.hid (HM2.out.trans hm)
 have HS3 := Lib.hid (HS2.out.mv hm HRB.out)
 have HTt3 : Hid (IsT (fun b => w.heap.size < b) w3 q3 t) := ht.mono (fun b hb => HS2.out.up hb)
 unfold ndC
 clear hp hx ht hr hm HX2 HR2 HM2 HS2
 have HW := Lib.hid (res_world r j3 lv s w w3 q3 t HRB.out HM3.out HS3.out.z HTt3.out HR3.out)
 obtain ⟨d0, d1, d2, d3, f0⟩ := HS3.out.cells
 have hX : Except.ok (t, j3) = X := HX3.out
 clear HX3
 subst hX
 (try unfold ndC)
 go_wp2_with fail
 obtain ⟨hcell, hist, hrd, hmv⟩ := HW.out
 exact bodyPost_ret (results_cellT rfl _ _ _ ⟨w.heap.size, 0, none⟩ _ rfl (load_node _ _ q3 hcell)) rfl ⟨_, rfl, hist, hrd, hmv⟩
set_option maxRecDepth 100000 in
set_option maxHeartbeats 1000000 in
theorem while_any (r : Rdr) (i lv : Nat) (s : Bool) (E Bk : PM Tree) (w : World) (h : RdAt r i lv s w) (hE : EndAt r)
  (HEX : ∀ a w1, RdAt r a lv s w1 → Calls Tryz.prog 61 #[.pointer (some ⟨r.b, 0, none⟩)] w1 (RulePost r (E a) lv s w1))
  (HBL : ∀ a w1, RdAt r a lv s w1 → Calls Tryz.prog 79 #[.pointer (some ⟨r.b, 0, none⟩)] w1 (RulePost r (Bk a) lv s w1)) :
  Calls Tryz.prog 98 #[.pointer (some ⟨r.b, 0, none⟩)] w (RulePost r (whileM r E Bk i) lv s w) := by
 have HRB : Hid (r.b < w.heap.size) := lt_heap h.cells
 have HR1 := Lib.hid (h.below (boxB w (.cells #[.int .i64 0, .string ⟨#[]⟩, .int .i64 0, .slice none 0 0] 37)))
 have HM1 := Lib.hid (Mv.of_below (r := r) (boxB w (.cells #[.int .i64 0, .string ⟨#[]⟩, .int .i64 0, .slice none 0 0] 37)))
 have HS1 := Lib.hid (ResAt.start w)
 generalize hX0 : whileM r E Bk i = X
 unfold whileM at hX0
 have HX1 := Lib.hid hX0
 have HE := Lib.hid hE
 have HE1 := Lib.hid HEX
 have HB1 := Lib.hid HBL
 clear hX0 h hE HEX HBL
 go_enter Tryz.func98, Tryz.ntmps98
 go_wp2_with fail
 generalize w.alloc (.cells #[.int .i64 0, .string ⟨#[]⟩, .int .i64 0, .slice none 0 0] 37) = w1 at *
 refine (here_x r i lv s w1 HR1.out).mono ?_
 rintro e w2 ⟨a, j2, hx, rfl, hr, hm⟩
 have HX2 := Lib.hid (bindM_ok hx HX1.out)
 have HR2 := Lib.hid hr
 have HM2 := Lib.hid (HM1.out.trans hm)
 have HS2 := Lib.hid (HS1.out.mv hm HRB.out)
 clear hx hr hm HX1 HR1 HM1 HS1
 go_wp2_with fail
 refine (need_x r j2 lv s ⟨#[119, 104, 105, 108, 101]⟩ w2 HR2.out HE.out (by decide)).mono ?_
 rintro e w3 (⟨k, hx, rfl, hm⟩ | ⟨_, j3, hx, rfl, hr, hm⟩)
 ·have HM3 := Lib.hid (HM2.out.trans hm)
  have hX := bindM_err hx HX2.out
  clear hx hm
  subst hX
  unfold stopAt
  go_wp2_with fail
  exact ⟨rfl, rfl, HM3.out⟩
 have HX3 := Lib.hid (bindM_ok hx HX2.out)
 have HR3 := Lib.hid hr
 have HM3 := Lib.hid (HM2.out.trans hm)
 have HS3 := Lib.hid (HS2.out.mv hm HRB.out)
 clear hx hr hm HX2 HR2 HM2 HS2
 go_wp2_with fail
 refine (HE1.out j3 w3 HR3.out).mono ?_
 intro e w4 hp
 rcases (RulePost.two (p := E) hp) with ⟨k, hx, rfl, hm⟩ | ⟨c, j4, hx, q4, rfl, ht, hr, hm⟩
 ·have HM4 := Lib.hid (HM3.out.trans hm)
  have hX := bindM_err hx HX3.out
  clear hx hm
  subst hX
  unfold stopAt
  go_wp2_with fail
  exact ⟨rfl, rfl, HM4.out⟩
 have HX4 := Lib.hid (bindM_ok hx HX3.out)
 have HR4 := Lib.hid hr
 have HM4 := Lib.hid (HM3.out.trans hm)
 have HS4 := Lib.hid (HS3.out.mv hm HRB.out)
 have HTc4 : Hid (IsT (fun b => w.heap.size < b) w4 q4 c) := ht.mono (fun b hb => HS3.out.up hb)
 unfold ndC
 clear hp hx ht hr hm HX3 HR3 HM3 HS3
 go_wp2_with fail
 refine (HB1.out j4 w4 HR4.out).mono ?_
 intro e w5 hp
 rcases (RulePost.two (p := Bk) hp) with ⟨k, hx, rfl, hm⟩ | ⟨b, j5, hx, q5, rfl, ht, hr, hm⟩
 ·have HM5 := Lib.hid (HM4.out.trans hm)
  have hX := bindM_err hx HX4.out
  clear hx hm
  subst hX
  unfold stopAt
  go_wp2_with fail
  exact ⟨rfl, rfl, HM5.out⟩
 have HX5 := Lib.hid (bindM_ok hx HX4.out)
 have HR5 := Lib.hid hr
 have HM5 := Lib.hid (HM4.out.trans hm)
 have HS5 := Lib.hid (HS4.out.mv hm HRB.out)
 have HTc5 := Lib.hid (HTc4.out.mvB hm HRB.out)
 have HTb5 : Hid (IsT (fun b => w.heap.size < b) w5 q5 b) := ht.mono (fun b hb => HS4.out.up hb)
 unfold ndC
 clear hp hx ht hr hm HX4 HR4 HM4 HS4 HTc4
 go_wp2_with fail
 have hb := boxB w5 (.cells #[.int .i64 q4.kind, .string q4.text, .int .i64 q4.at_, .slice q4.p q4.n q4.cap, .int .i64 q5.kind, .string q5.text, .int .i64 q5.at_, .slice q5.p q5.n q5.cap] 37)
 have hm : Mv r w5 (w5.alloc (.cells #[.int .i64 q4.kind, .string q4.text, .int .i64 q4.at_, .slice q4.p q4.n q4.cap, .int .i64 q5.kind, .string q5.text, .int .i64 q5.at_, .slice q5.p q5.n q5.cap] 37)) := Mv.of_below hb
 have HR6 := Lib.hid (HR5.out.below hb)
 have HM6 := Lib.hid (HM5.out.trans hm)
 have HS6 := Lib.hid (HS5.out.mv hm HRB.out)
 have hlt := lt_heap HS5.out.z
 have HL6 : Hid (IsTs (fun b => w.heap.size < b) (w5.alloc (.cells #[.int .i64 q4.kind, .string q4.text, .int .i64 q4.at_, .slice q4.p q4.n q4.cap, .int .i64 q5.kind, .string q5.text, .int .i64 q5.at_, .slice q5.p q5.n q5.cap] 37)) (.slice (some ⟨w5.heap.size, 0, none⟩) 2 2) [c, b]) := by
  refine IsTs.row _ [q4, q5] _ rfl rfl rfl (by decide) (by decide) hlt (fun i h1 h2 => ?_)
  match i, h1, h2 with
  | 0, _, _ => exact HTc5.out
  | 1, _, _ => exact HTb5.out
  | i + 2, h1, _ => exact absurd h1 (by simp)
 clear hb hm hlt HR5 HM5 HS5 HTc5 HTb5
 have HX6 := HX5
 clear HX5
 obtain ⟨g6, hg6⟩ : ∃ g, w5.heap.size = g := ⟨_, rfl⟩
 clear hg6
 generalize w5.alloc (.cells #[.int .i64 q4.kind, .string q4.text, .int .i64 q4.at_, .slice q4.p q4.n q4.cap, .int .i64 q5.kind, .string q5.text, .int .i64 q5.at_, .slice q5.p q5.n q5.cap] 37) = w6 at *
 refine (node_any 34 ⟨#[]⟩ a (some ⟨w5.heap.size, 0, none⟩) 2 2 w6).mono ?_
 rintro e w7 ⟨rfl, hb⟩
 have hm : Mv r w6 w7 := Mv.of_below hb
 have HX7 := HX6
 have HR7 := Lib.hid (HR6.out.below hb)
 have HM7 := Lib.hid (HM6.out.trans hm)
 have HS7 := Lib.hid (HS6.out.mv hm HRB.out)
 have HL7 := Lib.hid (HL6.out.mvB hm HRB.out)
 clear hb hm HX6 HR6 HM6 HS6 HL6
 have HW := Lib.hid (res_world r j5 lv s w w7 ⟨34, ⟨#[]⟩, a, some ⟨w5.heap.size, 0, none⟩, 2, 2⟩ (.mk 34 ⟨#[]⟩ a [c, b]) HRB.out HM7.out HS7.out.z (IsT.node _ _ _ HL7.out) HR7.out)
 obtain ⟨d0, d1, d2, d3, f0⟩ := HS7.out.cells
 have hX : Except.ok ((.mk 34 ⟨#[]⟩ a [c, b]), j5) = X := HX7.out
 clear HX7
 subst hX
 (try unfold ndC)
 go_wp2_with fail
 obtain ⟨hcell, hist, hrd, hmv⟩ := HW.out
 exact bodyPost_ret (results_cellT rfl _ _ _ ⟨w.heap.size, 0, none⟩ _ rfl (load_node _ _ ⟨34, ⟨#[]⟩, a, some ⟨w5.heap.size, 0, none⟩, 2, 2⟩ hcell)) rfl ⟨_, rfl, hist, hrd, hmv⟩
set_option maxRecDepth 100000 in
set_option maxHeartbeats 1000000 in
theorem print_any (r : Rdr) (i lv : Nat) (s : Bool) (E : PM Tree) (w : World) (h : RdAt r i lv s w) (hE : EndAt r)
  (HEX : ∀ a w1, RdAt r a lv s w1 → Calls Tryz.prog 61 #[.pointer (some ⟨r.b, 0, none⟩)] w1 (RulePost r (E a) lv s w1)) :
  Calls Tryz.prog 99 #[.pointer (some ⟨r.b, 0, none⟩)] w (RulePost r (printM r E i) lv s w) := by
 have HRB : Hid (r.b < w.heap.size) := lt_heap h.cells
 have HR1 := Lib.hid (h.below (boxB w (.cells #[.int .i64 0, .string ⟨#[]⟩, .int .i64 0, .slice none 0 0] 37)))
 have HM1 := Lib.hid (Mv.of_below (r := r) (boxB w (.cells #[.int .i64 0, .string ⟨#[]⟩, .int .i64 0, .slice none 0 0] 37)))
 have HS1 := Lib.hid (ResAt.start w)
 generalize hX0 : printM r E i = X
 unfold printM at hX0
 have HX1 := Lib.hid hX0
 have HE := Lib.hid hE
 have HE1 := Lib.hid HEX
 clear hX0 h hE HEX
 go_enter Tryz.func99, Tryz.ntmps99
 go_wp2_with fail
 generalize w.alloc (.cells #[.int .i64 0, .string ⟨#[]⟩, .int .i64 0, .slice none 0 0] 37) = w1 at *
 refine (here_x r i lv s w1 HR1.out).mono ?_
 rintro e w2 ⟨a, j2, hx, rfl, hr, hm⟩
 have HX2 := Lib.hid (bindM_ok hx HX1.out)
 have HR2 := Lib.hid hr
 have HM2 := Lib.hid (HM1.out.trans hm)
 have HS2 := Lib.hid (HS1.out.mv hm HRB.out)
 clear hx hr hm HX1 HR1 HM1 HS1
 go_wp2_with fail
 refine (need_x r j2 lv s ⟨#[112, 114, 105, 110, 116]⟩ w2 HR2.out HE.out (by decide)).mono ?_
 rintro e w3 (⟨k, hx, rfl, hm⟩ | ⟨_, j3, hx, rfl, hr, hm⟩)
 ·have HM3 := Lib.hid (HM2.out.trans hm)
  have hX := bindM_err hx HX2.out
  clear hx hm
  subst hX
  unfold stopAt
  go_wp2_with fail
  exact ⟨rfl, rfl, HM3.out⟩
 have HX3 := Lib.hid (bindM_ok hx HX2.out)
 have HR3 := Lib.hid hr
 have HM3 := Lib.hid (HM2.out.trans hm)
 have HS3 := Lib.hid (HS2.out.mv hm HRB.out)
 clear hx hr hm HX2 HR2 HM2 HS2
 go_wp2_with fail
 refine (HE1.out j3 w3 HR3.out).mono ?_
 intro e w4 hp
 rcases (RulePost.two (p := E) hp) with ⟨k, hx, rfl, hm⟩ | ⟨v, j4, hx, q4, rfl, ht, hr, hm⟩
 ·have HM4 := Lib.hid (HM3.out.trans hm)
  have hX := bindM_err hx HX3.out
  clear hx hm
  subst hX
  unfold stopAt
  go_wp2_with fail
  exact ⟨rfl, rfl, HM4.out⟩
 have HX4 := Lib.hid (bindM_ok hx HX3.out)
 have HR4 := Lib.hid hr
 have HM4 := Lib.hid (HM3.out.trans hm)
 have HS4 := Lib.hid (HS3.out.mv hm HRB.out)
 have HTv4 : Hid (IsT (fun b => w.heap.size < b) w4 q4 v) := ht.mono (fun b hb => HS3.out.up hb)
 unfold ndC
 clear hp hx ht hr hm HX3 HR3 HM3 HS3
 go_wp2_with fail
 have hb := boxB w4 (.cells #[.int .i64 q4.kind, .string q4.text, .int .i64 q4.at_, .slice q4.p q4.n q4.cap] 37)
 have hm : Mv r w4 (w4.alloc (.cells #[.int .i64 q4.kind, .string q4.text, .int .i64 q4.at_, .slice q4.p q4.n q4.cap] 37)) := Mv.of_below hb
 have HX5 := HX4
 have HR5 := Lib.hid (HR4.out.below hb)
 have HM5 := Lib.hid (HM4.out.trans hm)
 have HS5 := Lib.hid (HS4.out.mv hm HRB.out)
 have HTv5 := Lib.hid (HTv4.out.mvB hm HRB.out)
 have HBv5 : Hid (BoxAt r w w4.heap.size q4 (w4.alloc (.cells #[.int .i64 q4.kind, .string q4.text, .int .i64 q4.at_, .slice q4.p q4.n q4.cap] 37))) := ⟨heap_alloc_new w4 _, HS4.out.up (Nat.le_refl _), HRB.out⟩
 clear hb hm HX4 HR4 HM4 HS4 HTv4
 obtain ⟨gv, hgv⟩ : ∃ g, w4.heap.size = g := ⟨_, rfl⟩
 rw [hgv] at HBv5
 generalize w4.alloc (.cells #[.int .i64 q4.kind, .string q4.text, .int .i64 q4.at_, .slice q4.p q4.n q4.cap] 37) = w5 at *
 rw [hgv]
 clear hgv
 refine (need_x r j4 lv s ⟨#[59]⟩ w5 HR5.out HE.out (by decide)).mono ?_
 rintro e w6 (⟨k, hx, rfl, hm⟩ | ⟨_, j6, hx, rfl, hr, hm⟩)
 ·have HM6 := Lib.hid (HM5.out.trans hm)
  have hX := bindM_err hx HX5.out
  clear hx hm
  subst hX
  unfold stopAt
  go_wp2_with fail
  exact ⟨rfl, rfl, HM6.out⟩
 have HX6 := Lib.hid (bindM_ok hx HX5.out)
 have HR6 := Lib.hid hr
 have HM6 := Lib.hid (HM5.out.trans hm)
 have HS6 := Lib.hid (HS5.out.mv hm HRB.out)
 have HTv6 := Lib.hid (HTv5.out.mvB hm HRB.out)
 have HBv6 := Lib.hid (HBv5.out.mvB hm HRB.out)
 clear hx hr hm HX5 HR5 HM5 HS5 HTv5 HBv5
 obtain ⟨b0v, b1v, b2v, b3v⟩ := HBv6.out.cells
 go_wp2_with fail
 have hb := boxB w6 (.cells #[.int .i64 q4.kind, .string q4.text, .int .i64 q4.at_, .slice q4.p q4.n q4.cap] 37)
 have hm : Mv r w6 (w6.alloc (.cells #[.int .i64 q4.kind, .string q4.text, .int .i64 q4.at_, .slice q4.p q4.n q4.cap] 37)) := Mv.of_below hb
 have HR7 := Lib.hid (HR6.out.below hb)
 have HM7 := Lib.hid (HM6.out.trans hm)
 have HS7 := Lib.hid (HS6.out.mv hm HRB.out)
 have hlt := lt_heap HS6.out.z
 have HL7 : Hid (IsTs (fun b => w.heap.size < b) (w6.alloc (.cells #[.int .i64 q4.kind, .string q4.text, .int .i64 q4.at_, .slice q4.p q4.n q4.cap] 37)) (.slice (some ⟨w6.heap.size, 0, none⟩) 1 1) [v]) := by
  refine IsTs.row _ [q4] _ rfl rfl rfl (by decide) (by decide) hlt (fun i h1 h2 => ?_)
  match i, h1, h2 with
  | 0, _, _ => exact HTv6.out
  | i + 1, h1, _ => exact absurd h1 (by simp)
 clear hb hm hlt HR6 HM6 HS6 HTv6 HBv6
 have HX7 := HX6
 clear HX6
 obtain ⟨g7, hg7⟩ : ∃ g, w6.heap.size = g := ⟨_, rfl⟩
 clear hg7
 generalize w6.alloc (.cells #[.int .i64 q4.kind, .string q4.text, .int .i64 q4.at_, .slice q4.p q4.n q4.cap] 37) = w7 at *
 refine (node_any 35 ⟨#[]⟩ a (some ⟨w6.heap.size, 0, none⟩) 1 1 w7).mono ?_
 rintro e w8 ⟨rfl, hb⟩
 have hm : Mv r w7 w8 := Mv.of_below hb
 have HX8 := HX7
 have HR8 := Lib.hid (HR7.out.below hb)
 have HM8 := Lib.hid (HM7.out.trans hm)
 have HS8 := Lib.hid (HS7.out.mv hm HRB.out)
 have HL8 := Lib.hid (HL7.out.mvB hm HRB.out)
 clear hb hm HX7 HR7 HM7 HS7 HL7
 have HW := Lib.hid (res_world r j6 lv s w w8 ⟨35, ⟨#[]⟩, a, some ⟨w6.heap.size, 0, none⟩, 1, 1⟩ (.mk 35 ⟨#[]⟩ a [v]) HRB.out HM8.out HS8.out.z (IsT.node _ _ _ HL8.out) HR8.out)
 obtain ⟨d0, d1, d2, d3, f0⟩ := HS8.out.cells
 have hX : Except.ok ((.mk 35 ⟨#[]⟩ a [v]), j6) = X := HX8.out
 clear HX8
 subst hX
 (try unfold ndC)
 go_wp2_with fail
 obtain ⟨hcell, hist, hrd, hmv⟩ := HW.out
 exact bodyPost_ret (results_cellT rfl _ _ _ ⟨w.heap.size, 0, none⟩ _ rfl (load_node _ _ ⟨35, ⟨#[]⟩, a, some ⟨w6.heap.size, 0, none⟩, 1, 1⟩ hcell)) rfl ⟨_, rfl, hist, hrd, hmv⟩
end Go.Proofs.YtheigpiffdabnaaGreat
namespace Go.Proofs.YtheigpiffdabnaaGreat
open Go
/-- what an operation may leave: the value f x for some x, of which φ x holds in the world behind it -/
structure TyV where
 α : Type
 inh : Nonempty α
 f : α → Value
 φ : α → World → Prop
section
variable {P : Program} {ops : Array Oper} {md : Region.Mode} {A C : World → World → Prop} {Inv : World → Prop} {Pn : Ending → World → Prop} {c : Nat} {T : Nat → TyV}
/-- the others' facts stand behind the call and behind the others; the call's own stand behind the others -/
def Good (A C : World → World → Prop) (c k : Nat) (t : TyV) : Prop := (∀ x w w', A w w' → t.φ x w → t.φ x w') ∧ (k ≠ c → ∀ x w w', C w w' → t.φ x w → t.φ x w')
def sel (A C : World → World → Prop) (c i : Nat) : World → World → Prop := if i = c then C else A
def oneUpon (P : Program) (L : World → World → Prop) (Pn : Ending → World → Prop) (t : TyV) (w : World) : Result Next → Prop
 | .ok (.value u) w' => L w w' ∧ ∃ x, u = t.f x ∧ t.φ x w'
 | .ok .skip w' => L w w' ∧ ∃ x, undef = t.f x ∧ t.φ x w'
 | .ok (.enter g args) w' => Calls P g args w' (fun e w'' => (∃ x, e = .returned (t.f x) ∧ L w w'' ∧ t.φ x w'') ∨ (∃ k, e = .panicked k ∧ Pn e w''))
 | _ => False
def oneAt (P : Program) (ops : Array Oper) (L : World → World → Prop) (Pn : Ending → World → Prop) (t : TyV) (o : Oper) (a : Act) (w : World) : Prop :=
 if Region.wanted o (yielded ops a.tmps) then oneUpon P L Pn t w ((execOp a.eval o).run P w) else ∃ x, undef = t.f x ∧ t.φ x w
/-- what an operation leans on: its own fact and those of the ones that it waits for -/
def leanO (md : Region.Mode) (o : Oper) (i : Nat) (F : Facts) (w : World) : Prop := F i w ∧ ∀ e ∈ o.after, Region.binds md e = true → F e.on w
def oneOp (P : Program) (md : Region.Mode) (ops : Array Oper) (A C : World → World → Prop) (Inv : World → Prop) (Pn : Ending → World → Prop) (c : Nat) (T : Nat → TyV) (i : Nat) (K : Facts → Act → Prop) (F : Facts) (a : Act) : Prop :=
 match ops[i]? with
 | none => K F a
 | some o => Good A C c i (T i) ∧ (∀ w, Inv w → leanO md o i F w → oneAt P ops (sel A C c i) Pn (T i) o a w) ∧ ∀ x, K (upd F i ((T i).φ x)) (a.put o.dst ((T i).f x))
/-- the walk in the order of the text -/
def wpOne (P : Program) (md : Region.Mode) (ops : Array Oper) (A C : World → World → Prop) (Inv : World → Prop) (Pn : Ending → World → Prop) (c : Nat) (Q : Facts → Act → Prop) : List TyV → Nat → List Oper → Facts → Act → Prop
 | _, _, [], F, a => Q F a
 | t :: Ts, k, o :: rest, F, a => Good A C c k t ∧ (∀ w, Inv w → leanO md o k F w → oneAt P ops (sel A C c k) Pn t o a w) ∧ ∀ x, wpOne P md ops A C Inv Pn c Q Ts (k + 1) rest (upd F k (t.φ x)) (a.put o.dst (t.f x))
 | [], _, _ :: _, _, _ => False
theorem oneAt_put {L : World → World → Prop} {o : Oper} (hs : ∀ cs b, o.op ≠ .select cs b) {t : TyV} {a : Act} {dst : Option Tmp} {v : Value} (h : ∀ d, dst = some d → d ∉ o.looksAt ops) (w : World) :
  oneAt P ops L Pn t o (a.put dst v) w = oneAt P ops L Pn t o a w := by
 unfold oneAt
 rw [wanted_put o a dst v h, execOp_put o hs a dst v h]
def KeepsO (A C : World → World → Prop) (c : Nat) (F : Facts) : Prop := ∀ i k w w', k ≠ i → sel A C c i w w' → F k w → F k w'
theorem Good.stays {t : TyV} {i j : Nat} (h : Good A C c i t) (hj : i ≠ j) (x : t.α) {w w' : World} (hl : sel A C c j w w') (hx : t.φ x w) : t.φ x w' := by
 unfold sel at hl
 split at hl
 ·rename_i e
  exact h.2 (by omega) x w w' hl hx
 ·exact h.1 x w w' hl hx
theorem KeepsO.upd {F : Facts} (h : KeepsO A C c F) (i : Nat) {t : TyV} (hg : Good A C c i t) (x : t.α) : KeepsO A C c (upd F i (t.φ x)) := by
 intro j k w w' hk hl hf
 unfold Proofs.YtheigpiffdabnaaGreat.upd at *
 split
 ·rename_i e; rw [if_pos e] at hf; exact hg.stays (by omega) x hl hf
 ·rename_i e; rw [if_neg e] at hf; exact h j k w w' hk hl hf
theorem holds_updO {F : Facts} (h : KeepsO A C c F) {w w' : World} (i : Nat) (hl : sel A C c i w w') (hF : ∀ k, F k w) (t : TyV) (x : t.α) (hx : t.φ x w') : ∀ k, upd F i (t.φ x) k w' := by
 intro k
 unfold Proofs.YtheigpiffdabnaaGreat.upd
 split
 ·exact hx
 ·rename_i e; exact h i k w w' e hl (hF k)
theorem put_defers (a : Act) (dst : Option Tmp) (v : Value) : (a.put dst v).defers = a.defers := by
 cases dst <;> rfl
theorem wpOp_of_oneOp (hI : ∀ i w w', sel A C c i w w' → Inv w → Inv w') {i : Nat} {F : Facts} {a : Act} {K : Facts → Act → Prop} {K' : Act → World → Prop} {Q' : Exit → Act → World → Prop} {w : World} {D : List Deferred}
  (hP : ∀ k a w', Pn (.panicked k) w' → a.defers = D → Q' (.panic k) a w') (hD : a.defers = D)
  (hC : Inv w) (hk : KeepsO A C c F) (hF : ∀ k, F k w) (h : ∀ F a w', a.defers = D → Inv w' → KeepsO A C c F → (∀ k, F k w') → K F a → K' a w') (hh : oneOp P md ops A C Inv Pn c T i K F a) : wpOp P ops Q' i K' a w := by
 unfold oneOp at hh
 unfold wpOp
 split
 ·rename_i ho; simp only [ho] at hh; exact h _ _ _ hD hC hk hF hh
 ·rename_i o ho
  simp only [ho] at hh
  obtain ⟨hg, hh1, hh2⟩ := hh
  have h1 := hh1 w hC ⟨hF i, fun e _ _ => hF e.on⟩
  unfold oneAt at h1
  split
  ·rename_i hw
   rw [if_pos hw] at h1
   refine .inl ?_
   unfold Oper.wp
   generalize (execOp a.eval o).run P w = r at h1
   cases r with
   | ok n w' =>
    cases n <;> simp only [oneUpon] at h1 <;> simp only [Oper.upon]
    case value u =>
     obtain ⟨e1, x, rfl, e3⟩ := h1
     exact h _ _ _ ((put_defers _ _ _).trans hD) (hI i _ _ e1 hC) (hk.upd i hg x) (holds_updO hk i e1 hF _ x e3) (hh2 x)
    case skip =>
     obtain ⟨e1, x, e2, e3⟩ := h1
     rw [e2]
     exact h _ _ _ ((put_defers _ _ _).trans hD) (hI i _ _ e1 hC) (hk.upd i hg x) (holds_updO hk i e1 hF _ x e3) (hh2 x)
    case enter f args =>
     refine h1.mono ?_
     rintro e w'' (⟨x, rfl, e2, e3⟩ | ⟨k, rfl, e3⟩)
     ·exact h _ _ _ ((put_defers _ _ _).trans hD) (hI i _ _ e2 hC) (hk.upd i hg x) (holds_updO hk i e2 hF _ x e3) (hh2 x)
     ·exact hP k a w'' e3 hD
   | halt x w' => simp only [oneUpon] at h1
  ·rename_i hw
   rw [if_neg hw] at h1
   obtain ⟨x, e2, e3⟩ := h1
   rw [e2]
   have hx := hh2 x
   refine h _ _ _ ((put_defers _ _ _).trans hD) hC (hk.upd i hg x) ?_ hx
   intro k
   unfold upd
   split
   ·exact e3
   ·exact hF k
def wpAnyOne (P : Program) (md : Region.Mode) (ops : Array Oper) (A C : World → World → Prop) (Inv : World → Prop) (Pn : Ending → World → Prop) (c : Nat) (T : Nat → TyV) (n : Nat) (Lc : Array Bool → Prop) (Q : Facts → Act → Prop) : Nat → Array Bool → Facts → Act → Prop
 | 0, listed, F, a => Lc listed ∧ Q F a
 | fuel + 1, listed, F, a => Region.ready md ops listed ≠ [] ∧ ∀ i ∈ Region.ready md ops listed, i < n ∧ oneOp P md ops A C Inv Pn c T i (wpAnyOne P md ops A C Inv Pn c T n Lc Q fuel (listed.setIfInBounds i true)) F a
theorem wpAny_of_one (hI : ∀ i w w', sel A C c i w w' → Inv w → Inv w') {n g : Nat} {Lc : Array Bool → Prop} {Q : Facts → Act → Prop} {Q' : Exit → Act → World → Prop} {D : List Deferred}
  (hP : ∀ k a w', Pn (.panicked k) w' → a.defers = D → Q' (.panic k) a w')
  (hQ : ∀ listed F a w, Lc listed → Inv w → (∀ k, F k w) → Q F a → wpAny P md ops Q' g listed a w) :
  ∀ (fuel : Nat) (listed : Array Bool) (F : Facts) (a : Act) (w : World), a.defers = D → Inv w → KeepsO A C c F → (∀ k, F k w) →
  wpAnyOne P md ops A C Inv Pn c T n Lc Q fuel listed F a → wpAny P md ops Q' (fuel + g) listed a w
 | 0, _, _, _, _, _, hw, _, hF, h => by rw [Nat.zero_add]; exact hQ _ _ _ _ h.1 hw hF h.2
 | fuel + 1, _, _, _, _, hd, hw, hk, hF, h => by
  rw [show fuel + 1 + g = (fuel + g) + 1 by omega]
  exact ⟨fun h0 => absurd h0 h.1, fun i hi => wpOp_of_oneOp hI hP hd hw hk hF (fun F' a' w' hd' hw' hk' hF' => wpAny_of_one hI hP hQ fuel _ F' a' w' hd' hw' hk' hF') (h.2 i hi).2⟩
theorem wpAnyOne_first {n : Nat} {Lc : Array Bool → Prop} {Q : Facts → Act → Prop} {i : Nat} {oi : Oper} (hi : ops[i]? = some oi) (hsel : ∀ (j : Nat) (o : Oper) cs b, ops[j]? = some o → o.op ≠ .select cs b)
  (hs : Region.sinkB md ops n = true) (hc : Region.chainB md ops n = true) (hn : n < ops.size) (hin : i < n) (hdone : ∀ listed, Lc listed → ∀ j ∈ Region.ready md ops listed, n ≤ j) :
  ∀ (fuel : Nat) (listed : Array Bool) (F : Facts) (a : Act), HeadInv md ops n listed →
   (∀ j oj, ops[j]? = some oj → j ≠ i → listed.getD j true = false → (∀ e ∈ oj.after, Region.binds md e = true → e.on ≠ i) → oi.apart ops oj = true) →
   i ∈ Region.ready md ops listed → Good A C c i (T i) → (∀ w, Inv w → leanO md oi i F w → oneAt P ops (sel A C c i) Pn (T i) oi a w) →
   (∀ x, wpAnyOne P md ops A C Inv Pn c T n Lc Q fuel (listed.setIfInBounds i true) (upd F i ((T i).φ x)) (a.put oi.dst ((T i).f x))) → wpAnyOne P md ops A C Inv Pn c T n Lc Q (fuel + 1) listed F a := by
 intro fuel
 induction fuel with
 | zero =>
  intro listed F a inv _ hr hg hy H
  have hun := (mem_ready.1 hr).1
  refine ⟨fun h => (by rw [h] at hr; cases hr), fun j hj => ?_⟩
  have hjn : j < n := by
   rcases Nat.lt_or_ge j n with h | h
   ·exact h
   ·exact absurd hj (tail_waits hs hc hn inv _ i rfl hin hun j h)
  refine ⟨hjn, ?_⟩
  by_cases hji : j = i
  ·subst hji; unfold oneOp; simp only [hi]; exact ⟨hg, hy, H⟩
  ·obtain ⟨x⟩ := (T i).inh
   have := hdone _ (H x).1 j (ready_mono hj hji)
   omega
 | succ fuel ih =>
  intro listed F a inv hfree hr hg hy H
  have hun := (mem_ready.1 hr).1
  refine ⟨fun h => (by rw [h] at hr; cases hr), fun j hj => ?_⟩
  have hjn : j < n := by
   rcases Nat.lt_or_ge j n with h | h
   ·exact h
   ·exact absurd hj (tail_waits hs hc hn inv _ i rfl hin hun j h)
  refine ⟨hjn, ?_⟩
  by_cases hji : j = i
  ·subst hji; unfold oneOp; simp only [hi]; exact ⟨hg, hy, H⟩
  ·obtain ⟨hjun, oj, hoj, hall⟩ := mem_ready.1 hj
   have hnot : ∀ e ∈ oj.after, Region.binds md e = true → e.on ≠ i := fun e he hb heq => by
    have h1 := hall e he hb
    rw [heq, getD_both hun] at h1
    cases h1
   have hnoti : ∀ e ∈ oi.after, Region.binds md e = true → e.on ≠ j := fun e he hb heq => by
    obtain ⟨hiun, oi', hoi', halli⟩ := mem_ready.1 hr
    rw [hi] at hoi'
    cases hoi'
    have h1 := halli e he hb
    rw [heq, getD_both hjun] at h1
    cases h1
   obtain ⟨p1, p2, p3⟩ := Oper.apart_spec (hfree j oj hoj hji hjun hnot)
   have HJ : ∀ x, Good A C c j (T j) ∧ (∀ w, Inv w → leanO md oj j (upd F i ((T i).φ x)) w → oneAt P ops (sel A C c j) Pn (T j) oj (a.put oi.dst ((T i).f x)) w) ∧
     ∀ y, wpAnyOne P md ops A C Inv Pn c T n Lc Q fuel ((listed.setIfInBounds i true).setIfInBounds j true) (upd (upd F i ((T i).φ x)) j ((T j).φ y)) ((a.put oi.dst ((T i).f x)).put oj.dst ((T j).f y)) := by
    intro x
    have h1 := ((H x).2 j (ready_mono hj hji)).2
    unfold oneOp at h1
    simp only [hoj] at h1
    exact h1
   unfold oneOp
   simp only [hoj]
   obtain ⟨x0⟩ := (T i).inh
   refine ⟨(HJ x0).1, fun w hw hl => ?_, fun y => ?_⟩
   ·have h1 := (HJ x0).2.1 w hw ⟨by rw [upd_ne _ _ hji]; exact hl.1, fun e he hb => by rw [upd_ne _ _ (hnot e he hb)]; exact hl.2 e he hb⟩
    rwa [oneAt_put (fun cs b => hsel j oj cs b hoj) p1] at h1
   ·have hfree' : ∀ k ok, ops[k]? = some ok → k ≠ i → (listed.setIfInBounds j true).getD k true = false →
        (∀ e ∈ ok.after, Region.binds md e = true → e.on ≠ i) → oi.apart ops ok = true := fun k ok hk hki hun hno => by
     refine hfree k ok hk hki ?_ hno
     by_cases hjk : j = k
     ·subst hjk; exact hjun
     ·rw [getD_set_ne true hjk] at hun; exact hun
    refine ih (listed.setIfInBounds j true) _ _ (inv.set hj hjn) hfree' (ready_mono hr (Ne.symm hji)) hg ?_ ?_
    ·intro w hw hl
     rw [oneAt_put (fun cs b => hsel i oi cs b hi) p3]
     exact hy w hw ⟨by have := hl.1; rwa [upd_ne _ _ (Ne.symm hji)] at this, fun e he hb => by have := hl.2 e he hb; rwa [upd_ne _ _ (hnoti e he hb)] at this⟩
    ·intro x
     have h1 := (HJ x).2.2 y
     rw [Array.setIfInBounds_comm _ _ hji, upd_comm _ _ _ hji, ← Act.put_comm a _ _ p2]
     exact h1
theorem wpAnyOne_lex {n g : Nat} {Q : Facts → Act → Prop} (hsel : Region.noSelect ops = true) (hs : Region.sinkB md ops n = true) (hc : Region.chainB md ops n = true) (hn : n < ops.size) :
  ∀ (l : List Oper) (Ts : List TyV) (k : Nat) (listed : Array Bool) (F : Facts) (a : Act), (∀ j, j < l.length → l[j]? = ops[k + j]?) → (∀ j t, Ts[j]? = some t → T (k + j) = t) → k + l.length = n → HeadInv md ops n listed →
  Region.lexHead md ops g l.length k listed = true → wpOne P md ops A C Inv Pn c Q Ts k l F a →
  wpAnyOne P md ops A C Inv Pn c T n (fun listed' => Region.seqB md ops g n listed' = true) Q l.length listed F a
 | [], Ts, k, listed, F, a, hl, _, hk, inv, hB, h => by
  have : k = n := by simpa using hk
  subst this
  cases Ts <;> exact ⟨by simpa [Region.lexHead] using hB, by simpa [wpOne] using h⟩
 | o :: l, [], _, _, _, _, _, _, _, _, _, h => by simp [wpOne] at h
 | o :: l, t :: Ts, k, listed, F, a, hl, hT, hk, inv, hB, h => by
  have h0 : ops[k]? = some o := by simpa using (hl 0 (by simp)).symm
  have hTk : T k = t := by simpa using hT 0 t (by simp)
  simp only [List.length_cons, Region.lexHead, Bool.and_eq_true] at hB
  obtain ⟨⟨hr, hf⟩, hB'⟩ := hB
  have hkn : k < n := by simp only [List.length_cons] at hk; omega
  have hr' : k ∈ Region.ready md ops listed := by simpa using hr
  simp only [wpOne] at h
  subst hTk
  exact wpAnyOne_first h0 (Region.noSelect_spec hsel) hs hc hn hkn (fun listed hl => seqB_ready hl) l.length listed F a inv (Region.free_spec h0 hf) hr' h.1 h.2.1
   (fun x => wpAnyOne_lex hsel hs hc hn l Ts (k + 1) _ _ _ (fun j hj => by have := hl (j + 1) (by simp; omega); simpa [Nat.add_assoc, Nat.add_comm 1 j] using this)
    (fun j t ht => by have := hT (j + 1) t (by simpa using ht); simpa [Nat.add_assoc, Nat.add_comm 1 j] using this) (by simp only [List.length_cons] at hk; omega) (inv.set hr' hkn) hB' (h.2.2 x))
def preAt (c : Nat) (Pre : World → Prop) : Facts := fun k w => k = c → Pre w
/-- one walk in the order of the text, then the tail -/
theorem wp_region_one (c n : Nat) (A C : World → World → Prop) (Inv Pre : World → Prop) (Pn : Ending → World → Prop) (hIA : ∀ w w', A w w' → Inv w → Inv w') (hIC : ∀ w w', C w w' → Inv w → Inv w') (hPA : ∀ w w', A w w' → Pre w → Pre w')
  {id : Nat} {Q : Exit → Act → World → Prop} {a : Act} {w : World} {l : List Oper} (Ts : List TyV) (hP : ∀ k a' w', Pn (.panicked k) w' → a'.defers = a.defers → Q (.panic k) a' w') (hm : P.follows .mixedOrders = true) (hB : Region.lexTailB .any l.toArray n = true)
  (h0 : Inv w.drew) (h1 : Pre w.drew)
  (h : wpOne P .any l.toArray A C Inv Pn c (fun F a' => ∀ w', Inv w' → (∀ k, F k w') → wpList P l.toArray Q (l.drop n) a' w') Ts 0 (l.take n) (preAt c Pre) a) : (Code.region id l.toArray true).wp P Q a w := by
 have hI : ∀ i w w', sel A C c i w w' → Inv w → Inv w' := fun i w w' hl hi => by
  unfold sel at hl
  split at hl
  ·exact hIC _ _ hl hi
  ·exact hIA _ _ hl hi
 have hk0 : KeepsO A C c (preAt c Pre) := fun i k w w' hki hl hf e => by
  unfold sel at hl
  split at hl
  ·omega
  ·exact hPA _ _ hl (hf e)
 simp only [Region.lexTailB, Bool.and_eq_true, decide_eq_true_eq] at hB
 obtain ⟨⟨⟨⟨h1', h2⟩, h3⟩, h4⟩, h5⟩ := hB
 have hlt : n < l.length := by simpa using h2
 have hlen : (l.take n).length = n := by rw [List.length_take]; omega
 refine wp_region_any hm ?_
 have inv : HeadInv .any l.toArray n (Array.replicate l.toArray.size false) := ⟨by simp, (fun j oj hj hl => by rw [getD_replicate_false] at hl; cases hl), (fun t ht ht' => by simp at ht'; simp [ht'])⟩
 have key : wpAnyOne P .any l.toArray A C Inv Pn c (fun k => Ts.getD k ⟨Unit, ⟨()⟩, fun _ => undef, fun _ _ => True⟩) n (fun listed' => Region.seqB .any l.toArray (l.toArray.size - n) n listed' = true)
   (fun F a' => ∀ w', Inv w' → (∀ k, F k w') → wpList P l.toArray Q (l.drop n) a' w') (l.take n).length (Array.replicate l.toArray.size false) (preAt c Pre) a :=
  wpAnyOne_lex h1' h3 h4 h2 (l.take n) Ts 0 _ _ _ (fun j hj => by rw [hlen] at hj; simp [hj]) (by intro j t hj; simp [hj]) (by omega) inv (by rw [hlen]; exact h5) h
 have hfin := wpAny_of_one (P := P) (g := (l.drop n).length) hI (Q' := Q) hP (fun listed F a' w' hl hw hF hq => wpAny_of_seq (l.drop n) n listed a' w' (fun j => by simp [List.getElem?_drop]) (by rw [List.length_drop]; simpa using hl) (hq w' hw hF)) _ _ _ _ _ rfl h0 hk0 (fun _ e => h1) key
 have e : (l.take n).length + (l.drop n).length = l.length := by rw [← List.length_append, List.take_append_drop]
 rw [e] at hfin
 simpa using hfin
theorem wpOne_nil {Q : Facts → Act → Prop} {Ts : List TyV} {k : Nat} {F : Facts} {a : Act} (h : Q F a) : wpOne P md ops A C Inv Pn c Q Ts k [] F a := by
 cases Ts <;> exact h
theorem wpOne_cons {Q : Facts → Act → Prop} {t : TyV} {Ts : List TyV} {k : Nat} {o : Oper} {rest : List Oper} {F : Facts} {a : Act}
  (hg : Good A C c k t) (h1 : ∀ w, Inv w → leanO md o k F w → oneAt P ops (sel A C c k) Pn t o a w) (h2 : ∀ x, wpOne P md ops A C Inv Pn c Q Ts (k + 1) rest (upd F k (t.φ x)) (a.put o.dst (t.f x))) : wpOne P md ops A C Inv Pn c Q (t :: Ts) k (o :: rest) F a := ⟨hg, h1, h2⟩
/-- one value -/
def tvIs (v : Value) : TyV := ⟨Unit, ⟨()⟩, fun _ => v, fun _ _ => True⟩
theorem tvIs_good (v : Value) (k : Nat) : Good A C c k (tvIs v) := ⟨fun _ _ _ _ h => h, fun _ _ _ _ _ h => h⟩
theorem tvIs_f (v : Value) (x : (tvIs v).α) : (tvIs v).f x = v := rfl
end
end Go.Proofs.YtheigpiffdabnaaGreat
