/-
  DERIVED. GIVEN WITH THE SEED: THE CARDS: each row of YtlcldinmhcmdaaaDoorRows.lean that lists a variable, with what it lists TIED to the program's text (the seventh form; the later family's looks); each row that meets fmt, with fmt's text TOLD by the authors' own Lean function (tested against real Go, not proved from fmt's source: count such statements apart). THE CARD IS WHAT COUNTS. Prove the row's statement (the work); the ties are given (YtlcldinmhcmdaaaDoorTie.lean); close each card by the builder's one call (the guide's Derived/Test/ToyasCard.lean, 'card_holds'). Laid BY PROGRAM, IN A SANDBOX (cutbox-door.mjs). By AI agents, Wed Nov 11 2026. No macro, syntax, notation, axiom, sorry.
-/
import Derived.Test.YtlcldinmhcmdaaaDoorRows
import GoSem.ClaimSeven
namespace Go.Proofs.YtlcldinmhcmdaaaDoor
namespace Rows

/-- THE TIED CARD OF 'recompilelaw10.FactPacks'. -/
def factPacksCard : Claim7 := { stood := { row := factPacksRow, standIns := [], harness := (true, "da790d82e7519c83fce674ea1c48f463bf5c4c41c7efb7b26ef0835c03c355a4"), looks := true }, kinds := [], alts := [], laidByText := true, laidKinds := [.data, .data, .data, .sentinel, .sentinel], laidTests := true, laidLooks := .later }
def FactPacksCardSaid : Prop := Claim7.holds Tryd.pinned (.plain (OpenSpec.ofChange factPacksSpec)) factPacksCard

/-- THE TIED CARD OF 'recompilelaw10.FactCodes'. -/
def factCodesCard : Claim7 := { stood := { row := factCodesRow, standIns := [], harness := (true, "da790d82e7519c83fce674ea1c48f463bf5c4c41c7efb7b26ef0835c03c355a4"), looks := true }, kinds := [], alts := [], laidByText := true, laidKinds := [.data, .data, .data, .sentinel, .sentinel], laidTests := true, laidLooks := .later }
def FactCodesCardSaid : Prop := Claim7.holds Tryd.pinned (.plain (OpenSpec.ofChange factCodesSpec)) factCodesCard

/-- THE SECOND FORM's CARD OF 'recompilelaw10.FactPacks'. -/
def factPacksUptoCard : Claim7 := { stood := { row := factPacksUptoRow, standIns := [], harness := (true, "da790d82e7519c83fce674ea1c48f463bf5c4c41c7efb7b26ef0835c03c355a4"), looks := true }, kinds := [], alts := [], laidByText := true, laidKinds := [.data, .data, .data, .sentinel, .sentinel], laidTests := true, laidLooks := .later }
def FactPacksUptoCardSaid : Prop := Claim7.holds Tryd.pinned (.plain (OpenSpec.upto factPacksSpec)) factPacksUptoCard

/-- THE SECOND FORM's CARD OF 'recompilelaw10.FactCodes'. -/
def factCodesUptoCard : Claim7 := { stood := { row := factCodesUptoRow, standIns := [], harness := (true, "da790d82e7519c83fce674ea1c48f463bf5c4c41c7efb7b26ef0835c03c355a4"), looks := true }, kinds := [], alts := [], laidByText := true, laidKinds := [.data, .data, .data, .sentinel, .sentinel], laidTests := true, laidLooks := .later }
def FactCodesUptoCardSaid : Prop := Claim7.holds Tryd.pinned (.plain (OpenSpec.upto factCodesSpec)) factCodesUptoCard
end Rows
end Go.Proofs.YtlcldinmhcmdaaaDoor
