/-
  NARROWER THAN 'FOR EVERY INPUT', by the rows' own cells (each row's printed sentence says how): TypesRaw: loops.
  DERIVED. THE GIVEN ROWS OF THIS SEAT. 7 by the template 'for every input the law returns true; each argument reads behind the call as it read before'; 0 by the template 'total and deterministic' (their statements: YtbnnokibjccdaaaTotals.lean).
  GIVEN WITH THE SEED: the statements are not yours to turn. If you find one false, say at which input.
  Laid BY PROGRAM, IN A SANDBOX (cutbox-rows.mjs): the forced cells as the released guide's own fill.sh prints them over the translation 46f76a1922172c24… (all of the seat's roots in one cut). By AI agents, Wed Nov 11 2026. No macro, syntax, notation, axiom, sorry.
-/
import Derived.Test.YtbnnokibjccdaaaChecked
import GoSem.Claim
import GoSem.ClaimJoined
import GoSem.ClaimMapViews
import Derived.JoinedTies
import Derived.KernelRfl
namespace Go.Proofs.Ytbnnokibjccdaaa
/- THE CELL 'sum', in the pinned program and in every row, IS THE sha256 OF THE DUMP (.gsa) THAT YtbnnokibjccdaaaProg.lean LOADS. Nothing in Lean hashes anything: it is a label: what it is worth is what the hold of that sum in a sandbox is worth. -/
noncomputable def Try.pinned : Pinned := { name := "ytbnnokibjccdaaa", sum := "46f76a1922172c24c12eb594bcb9b6e8eeddd2babb27e8c6b10efd1a9739a3c4", checked := Try.checked }
namespace Rows
def none {H : Type} : Left H := { results := [], args := [] }

/-- 'recompilelaw09.TypesRaw': WHATEVER THE INPUT: true; the input reads as it did. -/
def typesRawSpec : ChangeSpec := { name := "typesRaw", fn := fun _ => fun
  | [d1, d2, d3] => { results := [.lit (.bool true)], args := [d1, d2, d3] }
  | _ => none }
def typesRawRow : OpenClaim := { program := "ytbnnokibjccdaaa", sum := "46f76a1922172c24c12eb594bcb9b6e8eeddd2babb27e8c6b10efd1a9739a3c4", func := "recompile/recompilelaw09.TypesRaw", spec := "typesRaw", inPlace := ["internal/bytealg.IndexByteString", "internal/bytealg.IndexString", "internal/abi.NoEscape"], unfollowed := true, recurses := true, named := ["internal/bytealg.MaxLen"], loops := true, plainKeys := false, apart := false }
def TypesRawSaid : Prop := typesRawRow.holds Try.pinned (OpenSpec.ofChange typesRawSpec)

/-- ITS FALSE NEIGHBOUR: 'it returns false'. Refute it at one input. -/
def typesRawWrong : ChangeSpec := { name := "typesRaw", fn := fun _ => fun
  | [d1, d2, d3] => { results := [.lit (.bool false)], args := [d1, d2, d3] }
  | _ => none }
def TypesRawWrongFalsely : Prop := typesRawRow.holds Try.pinned (OpenSpec.ofChange typesRawWrong)

/-- 'recompilelaw09.TypesMade': WHATEVER THE INPUT: true; the input reads as it did. -/
def typesMadeSpec : ChangeSpec := { name := "typesMade", fn := fun _ => fun
  | [d] => { results := [.lit (.bool true)], args := [d] }
  | _ => none }
def typesMadeRow : OpenClaim := { program := "ytbnnokibjccdaaa", sum := "46f76a1922172c24c12eb594bcb9b6e8eeddd2babb27e8c6b10efd1a9739a3c4", func := "recompile/recompilelaw09.TypesMade", spec := "typesMade", inPlace := ["internal/bytealg.IndexByteString", "internal/bytealg.IndexString", "internal/abi.NoEscape"], unfollowed := true, recurses := true, named := ["internal/bytealg.MaxLen"], plainKeys := false, apart := false }
def TypesMadeSaid : Prop := typesMadeRow.holds Try.pinned (OpenSpec.ofChange typesMadeSpec)

/-- ITS FALSE NEIGHBOUR: 'it returns false'. Refute it at one input. -/
def typesMadeWrong : ChangeSpec := { name := "typesMade", fn := fun _ => fun
  | [d] => { results := [.lit (.bool false)], args := [d] }
  | _ => none }
def TypesMadeWrongFalsely : Prop := typesMadeRow.holds Try.pinned (OpenSpec.ofChange typesMadeWrong)

/-- 'recompilelaw09.TypesParses': WHATEVER THE INPUT: true; the input reads as it did. -/
def typesParsesSpec : ChangeSpec := { name := "typesParses", fn := fun _ => fun
  | [d1, d2, d3] => { results := [.lit (.bool true)], args := [d1, d2, d3] }
  | _ => none }
def typesParsesRow : OpenClaim := { program := "ytbnnokibjccdaaa", sum := "46f76a1922172c24c12eb594bcb9b6e8eeddd2babb27e8c6b10efd1a9739a3c4", func := "recompile/recompilelaw09.TypesParses", spec := "typesParses", inPlace := ["internal/bytealg.IndexByteString", "internal/bytealg.IndexString", "internal/abi.NoEscape"], unfollowed := true, recurses := true, named := ["internal/bytealg.MaxLen"], plainKeys := false, apart := false }
def TypesParsesSaid : Prop := typesParsesRow.holds Try.pinned (OpenSpec.ofChange typesParsesSpec)

/-- ITS FALSE NEIGHBOUR: 'it returns false'. Refute it at one input. -/
def typesParsesWrong : ChangeSpec := { name := "typesParses", fn := fun _ => fun
  | [d1, d2, d3] => { results := [.lit (.bool false)], args := [d1, d2, d3] }
  | _ => none }
def TypesParsesWrongFalsely : Prop := typesParsesRow.holds Try.pinned (OpenSpec.ofChange typesParsesWrong)

/-- 'recompilelaw09.TypesWide': WHATEVER THE INPUT: true; the input reads as it did. -/
def typesWideSpec : ChangeSpec := { name := "typesWide", fn := fun _ => fun
  | [d] => { results := [.lit (.bool true)], args := [d] }
  | _ => none }
def typesWideRow : OpenClaim := { program := "ytbnnokibjccdaaa", sum := "46f76a1922172c24c12eb594bcb9b6e8eeddd2babb27e8c6b10efd1a9739a3c4", func := "recompile/recompilelaw09.TypesWide", spec := "typesWide", inPlace := ["internal/bytealg.IndexByteString", "internal/bytealg.IndexString", "internal/abi.NoEscape"], unfollowed := true, recurses := true, named := ["internal/bytealg.MaxLen"], plainKeys := false, apart := false }
def TypesWideSaid : Prop := typesWideRow.holds Try.pinned (OpenSpec.ofChange typesWideSpec)

/-- ITS FALSE NEIGHBOUR: 'it returns false'. Refute it at one input. -/
def typesWideWrong : ChangeSpec := { name := "typesWide", fn := fun _ => fun
  | [d] => { results := [.lit (.bool false)], args := [d] }
  | _ => none }
def TypesWideWrongFalsely : Prop := typesWideRow.holds Try.pinned (OpenSpec.ofChange typesWideWrong)

/-- 'recompilelaw09.TypesAgree': WHATEVER THE INPUT: true; the input reads as it did. -/
def typesAgreeSpec : ChangeSpec := { name := "typesAgree", fn := fun _ => fun
  | [d] => { results := [.lit (.bool true)], args := [d] }
  | _ => none }
def typesAgreeRow : OpenClaim := { program := "ytbnnokibjccdaaa", sum := "46f76a1922172c24c12eb594bcb9b6e8eeddd2babb27e8c6b10efd1a9739a3c4", func := "recompile/recompilelaw09.TypesAgree", spec := "typesAgree", inPlace := ["internal/bytealg.IndexByteString", "internal/bytealg.IndexString", "internal/abi.NoEscape"], unfollowed := true, recurses := true, named := ["internal/bytealg.MaxLen"], plainKeys := false, apart := false }
def TypesAgreeSaid : Prop := typesAgreeRow.holds Try.pinned (OpenSpec.ofChange typesAgreeSpec)

/-- ITS FALSE NEIGHBOUR: 'it returns false'. Refute it at one input. -/
def typesAgreeWrong : ChangeSpec := { name := "typesAgree", fn := fun _ => fun
  | [d] => { results := [.lit (.bool false)], args := [d] }
  | _ => none }
def TypesAgreeWrongFalsely : Prop := typesAgreeRow.holds Try.pinned (OpenSpec.ofChange typesAgreeWrong)

/-- 'recompilelaw09.TypesMatches': WHATEVER THE INPUT: true; the input reads as it did. -/
def typesMatchesSpec : ChangeSpec := { name := "typesMatches", fn := fun _ => fun
  | [d] => { results := [.lit (.bool true)], args := [d] }
  | _ => none }
def typesMatchesRow : OpenClaim := { program := "ytbnnokibjccdaaa", sum := "46f76a1922172c24c12eb594bcb9b6e8eeddd2babb27e8c6b10efd1a9739a3c4", func := "recompile/recompilelaw09.TypesMatches", spec := "typesMatches", inPlace := ["internal/bytealg.IndexByteString", "internal/bytealg.IndexString", "internal/abi.NoEscape"], unfollowed := true, recurses := true, named := ["internal/bytealg.MaxLen"], plainKeys := false, apart := false }
def TypesMatchesSaid : Prop := typesMatchesRow.holds Try.pinned (OpenSpec.ofChange typesMatchesSpec)

/-- ITS FALSE NEIGHBOUR: 'it returns false'. Refute it at one input. -/
def typesMatchesWrong : ChangeSpec := { name := "typesMatches", fn := fun _ => fun
  | [d] => { results := [.lit (.bool false)], args := [d] }
  | _ => none }
def TypesMatchesWrongFalsely : Prop := typesMatchesRow.holds Try.pinned (OpenSpec.ofChange typesMatchesWrong)

/-- 'recompilelaw09.TypesAnyOrder': WHATEVER THE INPUT: true; the input reads as it did. -/
def typesAnyOrderSpec : ChangeSpec := { name := "typesAnyOrder", fn := fun _ => fun
  | [d1, d2] => { results := [.lit (.bool true)], args := [d1, d2] }
  | _ => none }
def typesAnyOrderRow : OpenClaim := { program := "ytbnnokibjccdaaa", sum := "46f76a1922172c24c12eb594bcb9b6e8eeddd2babb27e8c6b10efd1a9739a3c4", func := "recompile/recompilelaw09.TypesAnyOrder", spec := "typesAnyOrder", inPlace := ["internal/bytealg.IndexByteString", "internal/bytealg.IndexString", "internal/abi.NoEscape"], unfollowed := true, recurses := true, named := ["internal/bytealg.MaxLen"], plainKeys := false, apart := false }
def TypesAnyOrderSaid : Prop := typesAnyOrderRow.holds Try.pinned (OpenSpec.ofChange typesAnyOrderSpec)

/-- ITS FALSE NEIGHBOUR: 'it returns false'. Refute it at one input. -/
def typesAnyOrderWrong : ChangeSpec := { name := "typesAnyOrder", fn := fun _ => fun
  | [d1, d2] => { results := [.lit (.bool false)], args := [d1, d2] }
  | _ => none }
def TypesAnyOrderWrongFalsely : Prop := typesAnyOrderRow.holds Try.pinned (OpenSpec.ofChange typesAnyOrderWrong)

/- THE SECOND FORM. 'bulk': how many values and letters a reading holds, each counted each time it is reached (what is shared counts as often as it is met; a slice's spare places count too). A statement '..UptoSaid' is the law's where the arguments, and the package variables that the reading takes, are together of bulk at most 1048576: NARROWER than '..Said'. Prove '..Said' where nothing that the law and all that it calls make is longer than what came in: it says more and counts as full. Else prove '..UptoSaid'. A law counts once. -/
mutual
def uptoBulk {H : Type} : DataW H → Nat
  | .lit (.string bytes) => bytes.length + 1
  | .lit _ => 1
  | .nil => 1
  | .ptr d => uptoBulk d + 1
  | .slice elems spare => uptoBulkAll elems + uptoBulkAll spare + 1
  | .agg parts => uptoBulkAll parts + 1
  | .iface _ d => uptoBulk d + 1
  | .map entries => uptoBulkEntries entries + 1
  | .held _ => 1
def uptoBulkAll {H : Type} : List (DataW H) → Nat
  | [] => 0
  | d :: r => uptoBulk d + uptoBulkAll r
def uptoBulkEntries {H : Type} : List (Lit × DataW H) → Nat
  | [] => 0
  | x :: r => uptoBulkEntry x + uptoBulkEntries r
def uptoBulkEntry {H : Type} : Lit × DataW H → Nat
  | (.string bytes, d) => bytes.length + uptoBulk d + 1
  | (_, d) => uptoBulk d + 1
 end
def uptoSmall : (H : Type) → List (DataW H) → Bool := fun _ ds => decide (uptoBulkAll ds ≤ 1048576)
def OpenSpec.upto (s : _root_.Go.ChangeSpec) : _root_.Go.OpenSpec := { _root_.Go.OpenSpec.ofChange s with cond := some uptoSmall }

/-- 'recompilelaw09.TypesRaw', WHERE WHAT IT READS IS OF BULK AT MOST 1048576: true; the input reads as it did. -/
def typesRawUptoRow : OpenClaim := { program := "ytbnnokibjccdaaa", sum := "46f76a1922172c24c12eb594bcb9b6e8eeddd2babb27e8c6b10efd1a9739a3c4", func := "recompile/recompilelaw09.TypesRaw", spec := "typesRaw", inPlace := ["internal/bytealg.IndexByteString", "internal/bytealg.IndexString", "internal/abi.NoEscape"], unfollowed := true, recurses := true, named := ["internal/bytealg.MaxLen"], loops := true, plainKeys := false, apart := false, narrowed := true }
def TypesRawUptoSaid : Prop := typesRawUptoRow.holds Try.pinned (OpenSpec.upto typesRawSpec)

/-- 'recompilelaw09.TypesMade', WHERE WHAT IT READS IS OF BULK AT MOST 1048576: true; the input reads as it did. -/
def typesMadeUptoRow : OpenClaim := { program := "ytbnnokibjccdaaa", sum := "46f76a1922172c24c12eb594bcb9b6e8eeddd2babb27e8c6b10efd1a9739a3c4", func := "recompile/recompilelaw09.TypesMade", spec := "typesMade", inPlace := ["internal/bytealg.IndexByteString", "internal/bytealg.IndexString", "internal/abi.NoEscape"], unfollowed := true, recurses := true, named := ["internal/bytealg.MaxLen"], plainKeys := false, apart := false, narrowed := true }
def TypesMadeUptoSaid : Prop := typesMadeUptoRow.holds Try.pinned (OpenSpec.upto typesMadeSpec)

/-- 'recompilelaw09.TypesParses', WHERE WHAT IT READS IS OF BULK AT MOST 1048576: true; the input reads as it did. -/
def typesParsesUptoRow : OpenClaim := { program := "ytbnnokibjccdaaa", sum := "46f76a1922172c24c12eb594bcb9b6e8eeddd2babb27e8c6b10efd1a9739a3c4", func := "recompile/recompilelaw09.TypesParses", spec := "typesParses", inPlace := ["internal/bytealg.IndexByteString", "internal/bytealg.IndexString", "internal/abi.NoEscape"], unfollowed := true, recurses := true, named := ["internal/bytealg.MaxLen"], plainKeys := false, apart := false, narrowed := true }
def TypesParsesUptoSaid : Prop := typesParsesUptoRow.holds Try.pinned (OpenSpec.upto typesParsesSpec)

/-- 'recompilelaw09.TypesWide', WHERE WHAT IT READS IS OF BULK AT MOST 1048576: true; the input reads as it did. -/
def typesWideUptoRow : OpenClaim := { program := "ytbnnokibjccdaaa", sum := "46f76a1922172c24c12eb594bcb9b6e8eeddd2babb27e8c6b10efd1a9739a3c4", func := "recompile/recompilelaw09.TypesWide", spec := "typesWide", inPlace := ["internal/bytealg.IndexByteString", "internal/bytealg.IndexString", "internal/abi.NoEscape"], unfollowed := true, recurses := true, named := ["internal/bytealg.MaxLen"], plainKeys := false, apart := false, narrowed := true }
def TypesWideUptoSaid : Prop := typesWideUptoRow.holds Try.pinned (OpenSpec.upto typesWideSpec)

/-- 'recompilelaw09.TypesAgree', WHERE WHAT IT READS IS OF BULK AT MOST 1048576: true; the input reads as it did. -/
def typesAgreeUptoRow : OpenClaim := { program := "ytbnnokibjccdaaa", sum := "46f76a1922172c24c12eb594bcb9b6e8eeddd2babb27e8c6b10efd1a9739a3c4", func := "recompile/recompilelaw09.TypesAgree", spec := "typesAgree", inPlace := ["internal/bytealg.IndexByteString", "internal/bytealg.IndexString", "internal/abi.NoEscape"], unfollowed := true, recurses := true, named := ["internal/bytealg.MaxLen"], plainKeys := false, apart := false, narrowed := true }
def TypesAgreeUptoSaid : Prop := typesAgreeUptoRow.holds Try.pinned (OpenSpec.upto typesAgreeSpec)

/-- 'recompilelaw09.TypesMatches', WHERE WHAT IT READS IS OF BULK AT MOST 1048576: true; the input reads as it did. -/
def typesMatchesUptoRow : OpenClaim := { program := "ytbnnokibjccdaaa", sum := "46f76a1922172c24c12eb594bcb9b6e8eeddd2babb27e8c6b10efd1a9739a3c4", func := "recompile/recompilelaw09.TypesMatches", spec := "typesMatches", inPlace := ["internal/bytealg.IndexByteString", "internal/bytealg.IndexString", "internal/abi.NoEscape"], unfollowed := true, recurses := true, named := ["internal/bytealg.MaxLen"], plainKeys := false, apart := false, narrowed := true }
def TypesMatchesUptoSaid : Prop := typesMatchesUptoRow.holds Try.pinned (OpenSpec.upto typesMatchesSpec)

/-- 'recompilelaw09.TypesAnyOrder', WHERE WHAT IT READS IS OF BULK AT MOST 1048576: true; the input reads as it did. -/
def typesAnyOrderUptoRow : OpenClaim := { program := "ytbnnokibjccdaaa", sum := "46f76a1922172c24c12eb594bcb9b6e8eeddd2babb27e8c6b10efd1a9739a3c4", func := "recompile/recompilelaw09.TypesAnyOrder", spec := "typesAnyOrder", inPlace := ["internal/bytealg.IndexByteString", "internal/bytealg.IndexString", "internal/abi.NoEscape"], unfollowed := true, recurses := true, named := ["internal/bytealg.MaxLen"], plainKeys := false, apart := false, narrowed := true }
def TypesAnyOrderUptoSaid : Prop := typesAnyOrderUptoRow.holds Try.pinned (OpenSpec.upto typesAnyOrderSpec)

end Rows
end Go.Proofs.Ytbnnokibjccdaaa
