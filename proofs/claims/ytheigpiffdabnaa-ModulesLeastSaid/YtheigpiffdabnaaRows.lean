/-
  No cell of these rows narrows 'for every input' (looked for: loops, veiled, ifaces, maps, wideKeys, modest, calm, conditions, laid).
  DERIVED. THE GIVEN ROWS OF THIS SEAT. 5 by the template 'for every input the law returns true; each argument reads behind the call as it read before'; 0 by the template 'total and deterministic' (their statements: YtheigpiffdabnaaTotals.lean).
  GIVEN WITH THE SEED: the statements are not yours to turn. If you find one false, say at which input.
  Laid BY PROGRAM, IN A SANDBOX (cutbox-rows.mjs): the forced cells as the released guide's own fill.sh prints them over the translation 925d41b4917da51b… (all of the seat's roots in one cut). By AI agents, Wed Nov 11 2026. No macro, syntax, notation, axiom, sorry.
-/
import Derived.Test.YtheigpiffdabnaaChecked
import GoSem.Claim
import GoSem.ClaimJoined
import GoSem.ClaimMapViews
import Derived.JoinedTies
import Derived.KernelRfl
namespace Go.Proofs.Ytheigpiffdabnaa
/- THE CELL 'sum', in the pinned program and in every row, IS THE sha256 OF THE DUMP (.gsa) THAT YtheigpiffdabnaaProg.lean LOADS. Nothing in Lean hashes anything: it is a label: what it is worth is what the hold of that sum in a sandbox is worth. -/
noncomputable def Try.pinned : Pinned := { name := "ytheigpiffdabnaa", sum := "925d41b4917da51b9fa23d49ab96bbc4d1f0005441a3302e116e81bf6c1e3b9d", checked := Try.checked }
namespace Rows
def none {H : Type} : Left H := { results := [], args := [] }

/-- 'recompilelaw05.IdentityMade': WHATEVER THE INPUT: true; the input reads as it did. -/
def identityMadeSpec : ChangeSpec := { name := "identityMade", fn := fun _ => fun
  | [d] => { results := [.lit (.bool true)], args := [d] }
  | _ => none }
def identityMadeRow : OpenClaim := { program := "ytheigpiffdabnaa", sum := "925d41b4917da51b9fa23d49ab96bbc4d1f0005441a3302e116e81bf6c1e3b9d", func := "recompile/recompilelaw05.IdentityMade", spec := "identityMade", unfollowed := true, recurses := true, plainKeys := false, apart := false }
def IdentityMadeSaid : Prop := identityMadeRow.holds Try.pinned (OpenSpec.ofChange identityMadeSpec)

/-- ITS FALSE NEIGHBOUR: 'it returns false'. Refute it at one input. -/
def identityMadeWrong : ChangeSpec := { name := "identityMade", fn := fun _ => fun
  | [d] => { results := [.lit (.bool false)], args := [d] }
  | _ => none }
def IdentityMadeWrongFalsely : Prop := identityMadeRow.holds Try.pinned (OpenSpec.ofChange identityMadeWrong)

/-- 'recompilelaw05.IdentityStays': WHATEVER THE INPUT: true; the input reads as it did. -/
def identityStaysSpec : ChangeSpec := { name := "identityStays", fn := fun _ => fun
  | [d] => { results := [.lit (.bool true)], args := [d] }
  | _ => none }
def identityStaysRow : OpenClaim := { program := "ytheigpiffdabnaa", sum := "925d41b4917da51b9fa23d49ab96bbc4d1f0005441a3302e116e81bf6c1e3b9d", func := "recompile/recompilelaw05.IdentityStays", spec := "identityStays", unfollowed := true, recurses := true, plainKeys := false, apart := false }
def IdentityStaysSaid : Prop := identityStaysRow.holds Try.pinned (OpenSpec.ofChange identityStaysSpec)

/-- ITS FALSE NEIGHBOUR: 'it returns false'. Refute it at one input. -/
def identityStaysWrong : ChangeSpec := { name := "identityStays", fn := fun _ => fun
  | [d] => { results := [.lit (.bool false)], args := [d] }
  | _ => none }
def IdentityStaysWrongFalsely : Prop := identityStaysRow.holds Try.pinned (OpenSpec.ofChange identityStaysWrong)

/-- 'recompilelaw06.ModulesBinds': WHATEVER THE INPUT: true; the input reads as it did. -/
def modulesBindsSpec : ChangeSpec := { name := "modulesBinds", fn := fun _ => fun
  | [d1, d2, d3] => { results := [.lit (.bool true)], args := [d1, d2, d3] }
  | _ => none }
def modulesBindsRow : OpenClaim := { program := "ytheigpiffdabnaa", sum := "925d41b4917da51b9fa23d49ab96bbc4d1f0005441a3302e116e81bf6c1e3b9d", func := "recompile/recompilelaw06.ModulesBinds", spec := "modulesBinds", inPlace := ["internal/bytealg.abigen_runtime_cmpstring"], unfollowed := true, recurses := true, plainKeys := false, apart := false }
def ModulesBindsSaid : Prop := modulesBindsRow.holds Try.pinned (OpenSpec.ofChange modulesBindsSpec)

/-- ITS FALSE NEIGHBOUR: 'it returns false'. Refute it at one input. -/
def modulesBindsWrong : ChangeSpec := { name := "modulesBinds", fn := fun _ => fun
  | [d1, d2, d3] => { results := [.lit (.bool false)], args := [d1, d2, d3] }
  | _ => none }
def ModulesBindsWrongFalsely : Prop := modulesBindsRow.holds Try.pinned (OpenSpec.ofChange modulesBindsWrong)

/-- 'recompilelaw06.ModulesLeast': WHATEVER THE INPUT: true; the input reads as it did. -/
def modulesLeastSpec : ChangeSpec := { name := "modulesLeast", fn := fun _ => fun
  | [d1, d2] => { results := [.lit (.bool true)], args := [d1, d2] }
  | _ => none }
def modulesLeastRow : OpenClaim := { program := "ytheigpiffdabnaa", sum := "925d41b4917da51b9fa23d49ab96bbc4d1f0005441a3302e116e81bf6c1e3b9d", func := "recompile/recompilelaw06.ModulesLeast", spec := "modulesLeast", inPlace := ["internal/bytealg.abigen_runtime_cmpstring"], unfollowed := true, recurses := true, plainKeys := false, apart := false }
def ModulesLeastSaid : Prop := modulesLeastRow.holds Try.pinned (OpenSpec.ofChange modulesLeastSpec)

/-- ITS FALSE NEIGHBOUR: 'it returns false'. Refute it at one input. -/
def modulesLeastWrong : ChangeSpec := { name := "modulesLeast", fn := fun _ => fun
  | [d1, d2] => { results := [.lit (.bool false)], args := [d1, d2] }
  | _ => none }
def ModulesLeastWrongFalsely : Prop := modulesLeastRow.holds Try.pinned (OpenSpec.ofChange modulesLeastWrong)

/-- 'recompilelaw06.ModulesGrow': WHATEVER THE INPUT: true; the input reads as it did. -/
def modulesGrowSpec : ChangeSpec := { name := "modulesGrow", fn := fun _ => fun
  | [d] => { results := [.lit (.bool true)], args := [d] }
  | _ => none }
def modulesGrowRow : OpenClaim := { program := "ytheigpiffdabnaa", sum := "925d41b4917da51b9fa23d49ab96bbc4d1f0005441a3302e116e81bf6c1e3b9d", func := "recompile/recompilelaw06.ModulesGrow", spec := "modulesGrow", inPlace := ["internal/bytealg.abigen_runtime_cmpstring"], unfollowed := true, recurses := true, plainKeys := false, apart := false }
def ModulesGrowSaid : Prop := modulesGrowRow.holds Try.pinned (OpenSpec.ofChange modulesGrowSpec)

/-- ITS FALSE NEIGHBOUR: 'it returns false'. Refute it at one input. -/
def modulesGrowWrong : ChangeSpec := { name := "modulesGrow", fn := fun _ => fun
  | [d] => { results := [.lit (.bool false)], args := [d] }
  | _ => none }
def ModulesGrowWrongFalsely : Prop := modulesGrowRow.holds Try.pinned (OpenSpec.ofChange modulesGrowWrong)

/- THE SECOND FORM. 'bulk': how many values and letters a reading holds, each counted each time it is reached (what is shared counts as often as it is met; a slice's spare places count too). A statement '..UptoSaid' is the law's where the arguments, and the package variables that the reading takes, are together of bulk at most 1048576: NARROWER than '..Said'. Prove '..Said' where nothing that the law and all that it calls make is longer than what came in: it says more and counts as full. Else prove '..UptoSaid'. A law counts once. -/
mutual
def uptoBulk {H : Type} : DataW H → Nat
  | .lit (.string bytes) => bytes.length + 1
  | .lit _ => 1
  | .nil => 1
  | .ptr d => uptoBulk d + 1
  | .slice elems spare => uptoBulkAll elems + uptoBulkAll spare + 1
  | .agg parts => uptoBulkAll parts + 1
  | .iface _ d => uptoBulk d + 1
  | .map entries => uptoBulkEntries entries + 1
  | .held _ => 1
def uptoBulkAll {H : Type} : List (DataW H) → Nat
  | [] => 0
  | d :: r => uptoBulk d + uptoBulkAll r
def uptoBulkEntries {H : Type} : List (Lit × DataW H) → Nat
  | [] => 0
  | x :: r => uptoBulkEntry x + uptoBulkEntries r
def uptoBulkEntry {H : Type} : Lit × DataW H → Nat
  | (.string bytes, d) => bytes.length + uptoBulk d + 1
  | (_, d) => uptoBulk d + 1
 end
def uptoSmall : (H : Type) → List (DataW H) → Bool := fun _ ds => decide (uptoBulkAll ds ≤ 1048576)
def OpenSpec.upto (s : _root_.Go.ChangeSpec) : _root_.Go.OpenSpec := { _root_.Go.OpenSpec.ofChange s with cond := some uptoSmall }

/-- 'recompilelaw05.IdentityMade', WHERE WHAT IT READS IS OF BULK AT MOST 1048576: true; the input reads as it did. -/
def identityMadeUptoRow : OpenClaim := { program := "ytheigpiffdabnaa", sum := "925d41b4917da51b9fa23d49ab96bbc4d1f0005441a3302e116e81bf6c1e3b9d", func := "recompile/recompilelaw05.IdentityMade", spec := "identityMade", unfollowed := true, recurses := true, plainKeys := false, apart := false, narrowed := true }
def IdentityMadeUptoSaid : Prop := identityMadeUptoRow.holds Try.pinned (OpenSpec.upto identityMadeSpec)

/-- 'recompilelaw05.IdentityStays', WHERE WHAT IT READS IS OF BULK AT MOST 1048576: true; the input reads as it did. -/
def identityStaysUptoRow : OpenClaim := { program := "ytheigpiffdabnaa", sum := "925d41b4917da51b9fa23d49ab96bbc4d1f0005441a3302e116e81bf6c1e3b9d", func := "recompile/recompilelaw05.IdentityStays", spec := "identityStays", unfollowed := true, recurses := true, plainKeys := false, apart := false, narrowed := true }
def IdentityStaysUptoSaid : Prop := identityStaysUptoRow.holds Try.pinned (OpenSpec.upto identityStaysSpec)

/-- 'recompilelaw06.ModulesBinds', WHERE WHAT IT READS IS OF BULK AT MOST 1048576: true; the input reads as it did. -/
def modulesBindsUptoRow : OpenClaim := { program := "ytheigpiffdabnaa", sum := "925d41b4917da51b9fa23d49ab96bbc4d1f0005441a3302e116e81bf6c1e3b9d", func := "recompile/recompilelaw06.ModulesBinds", spec := "modulesBinds", inPlace := ["internal/bytealg.abigen_runtime_cmpstring"], unfollowed := true, recurses := true, plainKeys := false, apart := false, narrowed := true }
def ModulesBindsUptoSaid : Prop := modulesBindsUptoRow.holds Try.pinned (OpenSpec.upto modulesBindsSpec)

/-- 'recompilelaw06.ModulesLeast', WHERE WHAT IT READS IS OF BULK AT MOST 1048576: true; the input reads as it did. -/
def modulesLeastUptoRow : OpenClaim := { program := "ytheigpiffdabnaa", sum := "925d41b4917da51b9fa23d49ab96bbc4d1f0005441a3302e116e81bf6c1e3b9d", func := "recompile/recompilelaw06.ModulesLeast", spec := "modulesLeast", inPlace := ["internal/bytealg.abigen_runtime_cmpstring"], unfollowed := true, recurses := true, plainKeys := false, apart := false, narrowed := true }
def ModulesLeastUptoSaid : Prop := modulesLeastUptoRow.holds Try.pinned (OpenSpec.upto modulesLeastSpec)

/-- 'recompilelaw06.ModulesGrow', WHERE WHAT IT READS IS OF BULK AT MOST 1048576: true; the input reads as it did. -/
def modulesGrowUptoRow : OpenClaim := { program := "ytheigpiffdabnaa", sum := "925d41b4917da51b9fa23d49ab96bbc4d1f0005441a3302e116e81bf6c1e3b9d", func := "recompile/recompilelaw06.ModulesGrow", spec := "modulesGrow", inPlace := ["internal/bytealg.abigen_runtime_cmpstring"], unfollowed := true, recurses := true, plainKeys := false, apart := false, narrowed := true }
def ModulesGrowUptoSaid : Prop := modulesGrowUptoRow.holds Try.pinned (OpenSpec.upto modulesGrowSpec)

end Rows
end Go.Proofs.Ytheigpiffdabnaa
