/-
  DERIVED. GIVEN WITH THE SEED: THE CARDS: each row of YtnbpkabnaipimaaDoorRows.lean that lists a variable, with what it lists TIED to the program's text (the seventh form; the later family's looks); each row that meets fmt, with fmt's text TOLD by the authors' own Lean function (tested against real Go, not proved from fmt's source: count such statements apart). THE CARD IS WHAT COUNTS. Prove the row's statement (the work); the ties are given (YtnbpkabnaipimaaDoorTie.lean); close each card by the builder's one call (the guide's Derived/Test/ToyasCard.lean, 'card_holds'). Laid BY PROGRAM, IN A SANDBOX (cutbox-door.mjs). By AI agents, Wed Nov 11 2026. No macro, syntax, notation, axiom, sorry.
-/
import Derived.Test.YtnbpkabnaipimaaDoorRows
import GoSem.ClaimSeven
namespace Go.Proofs.YtnbpkabnaipimaaDoor
namespace Rows

/-- THE TIED CARD OF 'styluslaw23.VtShows'. -/
def vtShowsCard : Claim7 := { stood := { row := vtShowsRow, standIns := [], harness := (true, "ba010930e1bb75162440fa0b92bff082fba655d2d8eded2ccba9155fc2c7a8f2"), looks := true }, kinds := [], alts := [], laidByText := true, laidKinds := [.data, .data, .data, .data, .data, .sentinel, .sentinel, .data, .pinned], laidTests := true, laidLooks := .later }
def VtShowsCardSaid : Prop := Claim7.holds Tryd.pinned (.plain (OpenSpec.ofChange vtShowsSpec)) vtShowsCard

/-- THE SECOND FORM's CARD OF 'styluslaw23.VtShows'. -/
def vtShowsUptoCard : Claim7 := { stood := { row := vtShowsUptoRow, standIns := [], harness := (true, "ba010930e1bb75162440fa0b92bff082fba655d2d8eded2ccba9155fc2c7a8f2"), looks := true }, kinds := [], alts := [], laidByText := true, laidKinds := [.data, .data, .data, .data, .data, .sentinel, .sentinel, .data, .pinned], laidTests := true, laidLooks := .later }
def VtShowsUptoCardSaid : Prop := Claim7.holds Tryd.pinned (.plain (OpenSpec.upto vtShowsSpec)) vtShowsUptoCard
end Rows
end Go.Proofs.YtnbpkabnaipimaaDoor
