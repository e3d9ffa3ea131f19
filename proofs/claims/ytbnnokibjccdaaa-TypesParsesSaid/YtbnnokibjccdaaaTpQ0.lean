/-
  PLAIN: how the text of a type is read (types.Parse and the reference's).
-/
import Derived.Test.YtbnnokibjccdaaaPrP
import Derived.Test.YtbnnokibjccdaaaTpZ
namespace Go.Proofs.Ytbnnokibjccdaaa
open Go Go.RowKit
set_option linter.unusedVariables false
set_option linter.unusedSimpArgs false

/-- no mark -/
def plb (c : UInt8) : Bool := c != 60 && c != 44 && c != 62
/-- types with a mark between them and one behind them, where P reads one -/
def parL (P : List UInt8 → Option (Tp × List UInt8)) : Nat → List UInt8 → Option (List Tp × List UInt8)
  | 0, _ => none
  | f + 1, q => match P q with
    | some (t, c :: q') => if c = 44 then (parL P f q').map (fun x => (t :: x.1, x.2)) else if c = 62 then some ([t], q') else none
    | _ => none
/-- a type, and what follows it -/
def parT : Nat → List UInt8 → Option (Tp × List UInt8)
  | 0, _ => none
  | f + 1, r => if r.takeWhile plb = [] then none else match r.dropWhile plb with
    | [] => some (.mk ⟨(r.takeWhile plb).toArray⟩ [], [])
    | c :: q => if c = 60 then (parL (parT f) (q.length + 1) q).map (fun x => (.mk ⟨(r.takeWhile plb).toArray⟩ x.1, x.2)) else some (.mk ⟨(r.takeWhile plb).toArray⟩ [], c :: q)
/-- Parse, but for the limit of nodes -/
def parS (s : ByteArray) : Option Tp := match parT (s.size + 1) s.data.toList with
  | some (t, []) => some t
  | _ => none

end Go.Proofs.Ytbnnokibjccdaaa
