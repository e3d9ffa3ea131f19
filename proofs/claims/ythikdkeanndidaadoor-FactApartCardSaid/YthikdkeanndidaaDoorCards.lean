/-
  DERIVED. GIVEN WITH THE SEED: THE CARDS: each row of YthikdkeanndidaaDoorRows.lean that lists a variable, with what it lists TIED to the program's text (the seventh form; the later family's looks); each row that meets fmt, with fmt's text TOLD by the authors' own Lean function (tested against real Go, not proved from fmt's source: count such statements apart). THE CARD IS WHAT COUNTS. Prove the row's statement (the work); the ties are given (YthikdkeanndidaaDoorTie.lean); close each card by the builder's one call (the guide's Derived/Test/ToyasCard.lean, 'card_holds'). Laid BY PROGRAM, IN A SANDBOX (cutbox-door.mjs). By AI agents, Wed Nov 11 2026. No macro, syntax, notation, axiom, sorry.
-/
import Derived.Test.YthikdkeanndidaaDoorRows
import GoSem.ClaimSeven
namespace Go.Proofs.YthikdkeanndidaaDoor
namespace Rows

/-- THE TIED CARD OF 'recompilelaw10.FactCodes'. -/
def factCodesCard : Claim7 := { stood := { row := factCodesRow, standIns := [], harness := (true, "efc6952b1cf6ff2dd1f83893438ea9c5c4f6481439ca21d0575fbea5080fe984"), looks := true }, kinds := [], alts := [], laidByText := true, laidKinds := [.data, .data, .data, .sentinel, .sentinel], laidTests := true, laidLooks := .later }
def FactCodesCardSaid : Prop := Claim7.holds Tryd.pinned (.plain (OpenSpec.ofChange factCodesSpec)) factCodesCard

/-- THE TIED CARD OF 'recompilelaw10.FactApart'. -/
def factApartCard : Claim7 := { stood := { row := factApartRow, standIns := [], harness := (true, "efc6952b1cf6ff2dd1f83893438ea9c5c4f6481439ca21d0575fbea5080fe984"), looks := true }, kinds := [], alts := [], laidByText := true, laidKinds := [.data, .data, .data, .sentinel, .sentinel], laidTests := true, laidLooks := .later }
def FactApartCardSaid : Prop := Claim7.holds Tryd.pinned (.plain (OpenSpec.ofChange factApartSpec)) factApartCard

/-- THE SECOND FORM's CARD OF 'recompilelaw10.FactCodes'. -/
def factCodesUptoCard : Claim7 := { stood := { row := factCodesUptoRow, standIns := [], harness := (true, "efc6952b1cf6ff2dd1f83893438ea9c5c4f6481439ca21d0575fbea5080fe984"), looks := true }, kinds := [], alts := [], laidByText := true, laidKinds := [.data, .data, .data, .sentinel, .sentinel], laidTests := true, laidLooks := .later }
def FactCodesUptoCardSaid : Prop := Claim7.holds Tryd.pinned (.plain (OpenSpec.upto factCodesSpec)) factCodesUptoCard

/-- THE SECOND FORM's CARD OF 'recompilelaw10.FactApart'. -/
def factApartUptoCard : Claim7 := { stood := { row := factApartUptoRow, standIns := [], harness := (true, "efc6952b1cf6ff2dd1f83893438ea9c5c4f6481439ca21d0575fbea5080fe984"), looks := true }, kinds := [], alts := [], laidByText := true, laidKinds := [.data, .data, .data, .sentinel, .sentinel], laidTests := true, laidLooks := .later }
def FactApartUptoCardSaid : Prop := Claim7.holds Tryd.pinned (.plain (OpenSpec.upto factApartSpec)) factApartUptoCard
end Rows
end Go.Proofs.YthikdkeanndidaaDoor
