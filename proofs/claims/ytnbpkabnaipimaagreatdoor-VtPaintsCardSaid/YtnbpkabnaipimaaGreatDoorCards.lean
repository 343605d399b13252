/-
  DERIVED. GIVEN WITH THE SEED: THE CARDS: each row of YtnbpkabnaipimaaGreatDoorRows.lean that lists a variable, with what it lists TIED to the program's text (the seventh form; the later family's looks); each row that meets fmt, with fmt's text TOLD by the authors' own Lean function (tested against real Go, not proved from fmt's source: count such statements apart). THE CARD IS WHAT COUNTS. Prove the row's statement (the work); the ties are given (YtnbpkabnaipimaaGreatDoorTie.lean); close each card by the builder's one call (the guide's Derived/Test/ToyasCard.lean, 'card_holds'). Laid BY PROGRAM, IN A SANDBOX (cutbox-door.mjs). By AI agents, Wed Nov 11 2026. No macro, syntax, notation, axiom, sorry.
-/
import Derived.Test.YtnbpkabnaipimaaGreatDoorRows
import GoSem.ClaimSeven
namespace Go.Proofs.YtnbpkabnaipimaaGreatDoor
namespace Rows

/-- THE TIED CARD OF 'styluslaw23.VtPaints'. -/
def vtPaintsCard : Claim7 := { stood := { row := vtPaintsRow, standIns := [], harness := (true, "ac8e51d3190d8419cd9552092f8b11b87d9ecfda64501ddd543558624fadaa53"), looks := true }, kinds := [], alts := [], laidByText := true, laidKinds := [.data, .data, .data, .data, .data, .sentinel, .sentinel, .data, .pinned], laidTests := true, laidLooks := .later }
def VtPaintsCardSaid : Prop := Claim7.holds Tryz.pinned (.plain (OpenSpec.ofChange vtPaintsSpec)) vtPaintsCard

/-- THE SECOND FORM's CARD OF 'styluslaw23.VtPaints'. -/
def vtPaintsUptoCard : Claim7 := { stood := { row := vtPaintsUptoRow, standIns := [], harness := (true, "ac8e51d3190d8419cd9552092f8b11b87d9ecfda64501ddd543558624fadaa53"), looks := true }, kinds := [], alts := [], laidByText := true, laidKinds := [.data, .data, .data, .data, .data, .sentinel, .sentinel, .data, .pinned], laidTests := true, laidLooks := .later }
def VtPaintsUptoCardSaid : Prop := Claim7.holds Tryz.pinned (.plain (OpenSpec.upto vtPaintsSpec)) vtPaintsUptoCard
end Rows
end Go.Proofs.YtnbpkabnaipimaaGreatDoor
