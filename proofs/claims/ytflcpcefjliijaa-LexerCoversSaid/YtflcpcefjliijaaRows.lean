/-
  No cell of these rows narrows 'for every input' (looked for: loops, veiled, ifaces, maps, wideKeys, modest, calm, conditions, laid).
  DERIVED. THE GIVEN ROWS OF THIS SEAT. 5 by the template 'for every input the law returns true; each argument reads behind the call as it read before'; 0 by the template 'total and deterministic' (their statements: YtflcpcefjliijaaTotals.lean).
  GIVEN WITH THE SEED: the statements are not yours to turn. If you find one false, say at which input.
  Laid BY PROGRAM, IN A SANDBOX (cutbox-rows.mjs): the forced cells as the released guide's own fill.sh prints them over the translation f1811e3d151f9899… (all of the seat's roots in one cut). By AI agents, Wed Nov 11 2026. No macro, syntax, notation, axiom, sorry.
-/
import Derived.Test.YtflcpcefjliijaaChecked
import GoSem.Claim
import GoSem.ClaimJoined
import GoSem.ClaimMapViews
import Derived.JoinedTies
import Derived.KernelRfl
namespace Go.Proofs.Ytflcpcefjliijaa
/- THE CELL 'sum', in the pinned program and in every row, IS THE sha256 OF THE DUMP (.gsa) THAT YtflcpcefjliijaaProg.lean LOADS. Nothing in Lean hashes anything: it is a label: what it is worth is what the hold of that sum in a sandbox is worth. -/
noncomputable def Try.pinned : Pinned := { name := "ytflcpcefjliijaa", sum := "f1811e3d151f9899510790ae0a45116a495f1ab43d60f7c255340b335f3f3762", checked := Try.checked }
namespace Rows
def none {H : Type} : Left H := { results := [], args := [] }

/-- 'recompilelaw01.SourceMade': WHATEVER THE INPUT: true; the input reads as it did. -/
def sourceMadeSpec : ChangeSpec := { name := "sourceMade", fn := fun _ => fun
  | [d1, d2] => { results := [.lit (.bool true)], args := [d1, d2] }
  | _ => none }
def sourceMadeRow : OpenClaim := { program := "ytflcpcefjliijaa", sum := "f1811e3d151f9899510790ae0a45116a495f1ab43d60f7c255340b335f3f3762", func := "recompile/recompilelaw01.SourceMade", spec := "sourceMade", inPlace := ["internal/bytealg.CountString", "internal/bytealg.IndexByteString", "internal/bytealg.IndexString"], unfollowed := true, recurses := true, named := ["internal/bytealg.MaxLen"], apart := false }
def SourceMadeSaid : Prop := sourceMadeRow.holds Try.pinned (OpenSpec.ofChange sourceMadeSpec)

/-- ITS FALSE NEIGHBOUR: 'it returns false'. Refute it at one input. -/
def sourceMadeWrong : ChangeSpec := { name := "sourceMade", fn := fun _ => fun
  | [d1, d2] => { results := [.lit (.bool false)], args := [d1, d2] }
  | _ => none }
def SourceMadeWrongFalsely : Prop := sourceMadeRow.holds Try.pinned (OpenSpec.ofChange sourceMadeWrong)

/-- 'recompilelaw01.SourceDiffs': WHATEVER THE INPUT: true; the input reads as it did. -/
def sourceDiffsSpec : ChangeSpec := { name := "sourceDiffs", fn := fun _ => fun
  | [d1, d2, d3] => { results := [.lit (.bool true)], args := [d1, d2, d3] }
  | _ => none }
def sourceDiffsRow : OpenClaim := { program := "ytflcpcefjliijaa", sum := "f1811e3d151f9899510790ae0a45116a495f1ab43d60f7c255340b335f3f3762", func := "recompile/recompilelaw01.SourceDiffs", spec := "sourceDiffs", inPlace := ["internal/bytealg.CountString", "internal/bytealg.IndexByteString", "internal/bytealg.IndexString"], unfollowed := true, recurses := true, named := ["internal/bytealg.MaxLen"], apart := false }
def SourceDiffsSaid : Prop := sourceDiffsRow.holds Try.pinned (OpenSpec.ofChange sourceDiffsSpec)

/-- ITS FALSE NEIGHBOUR: 'it returns false'. Refute it at one input. -/
def sourceDiffsWrong : ChangeSpec := { name := "sourceDiffs", fn := fun _ => fun
  | [d1, d2, d3] => { results := [.lit (.bool false)], args := [d1, d2, d3] }
  | _ => none }
def SourceDiffsWrongFalsely : Prop := sourceDiffsRow.holds Try.pinned (OpenSpec.ofChange sourceDiffsWrong)

/-- 'recompilelaw01.SourceApart': WHATEVER THE INPUT: true; the input reads as it did. -/
def sourceApartSpec : ChangeSpec := { name := "sourceApart", fn := fun _ => fun
  | [d] => { results := [.lit (.bool true)], args := [d] }
  | _ => none }
def sourceApartRow : OpenClaim := { program := "ytflcpcefjliijaa", sum := "f1811e3d151f9899510790ae0a45116a495f1ab43d60f7c255340b335f3f3762", func := "recompile/recompilelaw01.SourceApart", spec := "sourceApart", inPlace := ["internal/bytealg.CountString", "internal/bytealg.IndexByteString", "internal/bytealg.IndexString"], unfollowed := true, recurses := true, named := ["internal/bytealg.MaxLen"], apart := false }
def SourceApartSaid : Prop := sourceApartRow.holds Try.pinned (OpenSpec.ofChange sourceApartSpec)

/-- ITS FALSE NEIGHBOUR: 'it returns false'. Refute it at one input. -/
def sourceApartWrong : ChangeSpec := { name := "sourceApart", fn := fun _ => fun
  | [d] => { results := [.lit (.bool false)], args := [d] }
  | _ => none }
def SourceApartWrongFalsely : Prop := sourceApartRow.holds Try.pinned (OpenSpec.ofChange sourceApartWrong)

/-- 'recompilelaw02.LexerTokens': WHATEVER THE INPUT: true; the input reads as it did. -/
def lexerTokensSpec : ChangeSpec := { name := "lexerTokens", fn := fun _ => fun
  | [d1, d2] => { results := [.lit (.bool true)], args := [d1, d2] }
  | _ => none }
def lexerTokensRow : OpenClaim := { program := "ytflcpcefjliijaa", sum := "f1811e3d151f9899510790ae0a45116a495f1ab43d60f7c255340b335f3f3762", func := "recompile/recompilelaw02.LexerTokens", spec := "lexerTokens", inPlace := ["internal/bytealg.IndexByteString"], recurses := true, apart := false }
def LexerTokensSaid : Prop := lexerTokensRow.holds Try.pinned (OpenSpec.ofChange lexerTokensSpec)

/-- ITS FALSE NEIGHBOUR: 'it returns false'. Refute it at one input. -/
def lexerTokensWrong : ChangeSpec := { name := "lexerTokens", fn := fun _ => fun
  | [d1, d2] => { results := [.lit (.bool false)], args := [d1, d2] }
  | _ => none }
def LexerTokensWrongFalsely : Prop := lexerTokensRow.holds Try.pinned (OpenSpec.ofChange lexerTokensWrong)

/-- 'recompilelaw02.LexerCovers': WHATEVER THE INPUT: true; the input reads as it did. -/
def lexerCoversSpec : ChangeSpec := { name := "lexerCovers", fn := fun _ => fun
  | [d1, d2] => { results := [.lit (.bool true)], args := [d1, d2] }
  | _ => none }
def lexerCoversRow : OpenClaim := { program := "ytflcpcefjliijaa", sum := "f1811e3d151f9899510790ae0a45116a495f1ab43d60f7c255340b335f3f3762", func := "recompile/recompilelaw02.LexerCovers", spec := "lexerCovers", inPlace := ["internal/bytealg.IndexByteString"], recurses := true, apart := false }
def LexerCoversSaid : Prop := lexerCoversRow.holds Try.pinned (OpenSpec.ofChange lexerCoversSpec)

/-- ITS FALSE NEIGHBOUR: 'it returns false'. Refute it at one input. -/
def lexerCoversWrong : ChangeSpec := { name := "lexerCovers", fn := fun _ => fun
  | [d1, d2] => { results := [.lit (.bool false)], args := [d1, d2] }
  | _ => none }
def LexerCoversWrongFalsely : Prop := lexerCoversRow.holds Try.pinned (OpenSpec.ofChange lexerCoversWrong)

/- THE SECOND FORM. 'bulk': how many values and letters a reading holds, each counted each time it is reached (what is shared counts as often as it is met; a slice's spare places count too). A statement '..UptoSaid' is the law's where the arguments, and the package variables that the reading takes, are together of bulk at most 1048576: NARROWER than '..Said'. Prove '..Said' where nothing that the law and all that it calls make is longer than what came in: it says more and counts as full. Else prove '..UptoSaid'. A law counts once. -/
mutual
def uptoBulk {H : Type} : DataW H → Nat
  | .lit (.string bytes) => bytes.length + 1
  | .lit _ => 1
  | .nil => 1
  | .ptr d => uptoBulk d + 1
  | .slice elems spare => uptoBulkAll elems + uptoBulkAll spare + 1
  | .agg parts => uptoBulkAll parts + 1
  | .iface _ d => uptoBulk d + 1
  | .map entries => uptoBulkEntries entries + 1
  | .held _ => 1
def uptoBulkAll {H : Type} : List (DataW H) → Nat
  | [] => 0
  | d :: r => uptoBulk d + uptoBulkAll r
def uptoBulkEntries {H : Type} : List (Lit × DataW H) → Nat
  | [] => 0
  | x :: r => uptoBulkEntry x + uptoBulkEntries r
def uptoBulkEntry {H : Type} : Lit × DataW H → Nat
  | (.string bytes, d) => bytes.length + uptoBulk d + 1
  | (_, d) => uptoBulk d + 1
 end
def uptoSmall : (H : Type) → List (DataW H) → Bool := fun _ ds => decide (uptoBulkAll ds ≤ 1048576)
def OpenSpec.upto (s : _root_.Go.ChangeSpec) : _root_.Go.OpenSpec := { _root_.Go.OpenSpec.ofChange s with cond := some uptoSmall }

/-- 'recompilelaw01.SourceMade', WHERE WHAT IT READS IS OF BULK AT MOST 1048576: true; the input reads as it did. -/
def sourceMadeUptoRow : OpenClaim := { program := "ytflcpcefjliijaa", sum := "f1811e3d151f9899510790ae0a45116a495f1ab43d60f7c255340b335f3f3762", func := "recompile/recompilelaw01.SourceMade", spec := "sourceMade", inPlace := ["internal/bytealg.CountString", "internal/bytealg.IndexByteString", "internal/bytealg.IndexString"], unfollowed := true, recurses := true, named := ["internal/bytealg.MaxLen"], apart := false, narrowed := true }
def SourceMadeUptoSaid : Prop := sourceMadeUptoRow.holds Try.pinned (OpenSpec.upto sourceMadeSpec)

/-- 'recompilelaw01.SourceDiffs', WHERE WHAT IT READS IS OF BULK AT MOST 1048576: true; the input reads as it did. -/
def sourceDiffsUptoRow : OpenClaim := { program := "ytflcpcefjliijaa", sum := "f1811e3d151f9899510790ae0a45116a495f1ab43d60f7c255340b335f3f3762", func := "recompile/recompilelaw01.SourceDiffs", spec := "sourceDiffs", inPlace := ["internal/bytealg.CountString", "internal/bytealg.IndexByteString", "internal/bytealg.IndexString"], unfollowed := true, recurses := true, named := ["internal/bytealg.MaxLen"], apart := false, narrowed := true }
def SourceDiffsUptoSaid : Prop := sourceDiffsUptoRow.holds Try.pinned (OpenSpec.upto sourceDiffsSpec)

/-- 'recompilelaw01.SourceApart', WHERE WHAT IT READS IS OF BULK AT MOST 1048576: true; the input reads as it did. -/
def sourceApartUptoRow : OpenClaim := { program := "ytflcpcefjliijaa", sum := "f1811e3d151f9899510790ae0a45116a495f1ab43d60f7c255340b335f3f3762", func := "recompile/recompilelaw01.SourceApart", spec := "sourceApart", inPlace := ["internal/bytealg.CountString", "internal/bytealg.IndexByteString", "internal/bytealg.IndexString"], unfollowed := true, recurses := true, named := ["internal/bytealg.MaxLen"], apart := false, narrowed := true }
def SourceApartUptoSaid : Prop := sourceApartUptoRow.holds Try.pinned (OpenSpec.upto sourceApartSpec)

/-- 'recompilelaw02.LexerTokens', WHERE WHAT IT READS IS OF BULK AT MOST 1048576: true; the input reads as it did. -/
def lexerTokensUptoRow : OpenClaim := { program := "ytflcpcefjliijaa", sum := "f1811e3d151f9899510790ae0a45116a495f1ab43d60f7c255340b335f3f3762", func := "recompile/recompilelaw02.LexerTokens", spec := "lexerTokens", inPlace := ["internal/bytealg.IndexByteString"], recurses := true, apart := false, narrowed := true }
def LexerTokensUptoSaid : Prop := lexerTokensUptoRow.holds Try.pinned (OpenSpec.upto lexerTokensSpec)

/-- 'recompilelaw02.LexerCovers', WHERE WHAT IT READS IS OF BULK AT MOST 1048576: true; the input reads as it did. -/
def lexerCoversUptoRow : OpenClaim := { program := "ytflcpcefjliijaa", sum := "f1811e3d151f9899510790ae0a45116a495f1ab43d60f7c255340b335f3f3762", func := "recompile/recompilelaw02.LexerCovers", spec := "lexerCovers", inPlace := ["internal/bytealg.IndexByteString"], recurses := true, apart := false, narrowed := true }
def LexerCoversUptoSaid : Prop := lexerCoversUptoRow.holds Try.pinned (OpenSpec.upto lexerCoversSpec)

end Rows
end Go.Proofs.Ytflcpcefjliijaa
