/-
  DERIVED. GIVEN WITH THE SEED: THE CARDS: each row of YtdeckkmlcbbjcaaDoorRows.lean that lists a variable, with what it lists TIED to the program's text (the seventh form; the later family's looks); each row that meets fmt, with fmt's text TOLD by the authors' own Lean function (tested against real Go, not proved from fmt's source: count such statements apart). THE CARD IS WHAT COUNTS. Prove the row's statement (the work); the ties are given (YtdeckkmlcbbjcaaDoorTie.lean); close each card by the builder's one call (the guide's Derived/Test/ToyasCard.lean, 'card_holds'). Laid BY PROGRAM, IN A SANDBOX (cutbox-door.mjs). By AI agents, Wed Nov 11 2026. No macro, syntax, notation, axiom, sorry.
-/
import Derived.Test.YtdeckkmlcbbjcaaDoorRows
import GoSem.ClaimSeven
namespace Go.Proofs.YtdeckkmlcbbjcaaDoor
namespace Rows

/-- THE TIED CARD OF 'styluslaw02.WidthTells'. -/
def widthTellsCard : Claim7 := { stood := { row := widthTellsRow, standIns := [], harness := (true, "22e224c2588d9c3815dfc3a3a55ecb2e9aa82f8052bd523c7794a8c16ba801ce"), looks := false }, kinds := [], alts := [], laidByText := true, laidKinds := [.data], laidTests := true, laidLooks := .later }
def WidthTellsCardSaid : Prop := Claim7.holds Tryd.pinned (.plain (OpenSpec.ofChange widthTellsSpec)) widthTellsCard

/-- THE TIED CARD OF 'styluslaw02.WidthAdds'. -/
def widthAddsCard : Claim7 := { stood := { row := widthAddsRow, standIns := [], harness := (true, "22e224c2588d9c3815dfc3a3a55ecb2e9aa82f8052bd523c7794a8c16ba801ce"), looks := false }, kinds := [], alts := [], laidByText := true, laidKinds := [.data], laidTests := true, laidLooks := .later }
def WidthAddsCardSaid : Prop := Claim7.holds Tryd.pinned (.plain (OpenSpec.ofChange widthAddsSpec)) widthAddsCard

/-- THE SECOND FORM's CARD OF 'styluslaw02.WidthTells'. -/
def widthTellsUptoCard : Claim7 := { stood := { row := widthTellsUptoRow, standIns := [], harness := (true, "22e224c2588d9c3815dfc3a3a55ecb2e9aa82f8052bd523c7794a8c16ba801ce"), looks := false }, kinds := [], alts := [], laidByText := true, laidKinds := [.data], laidTests := true, laidLooks := .later }
def WidthTellsUptoCardSaid : Prop := Claim7.holds Tryd.pinned (.plain (OpenSpec.upto widthTellsSpec)) widthTellsUptoCard

/-- THE SECOND FORM's CARD OF 'styluslaw02.WidthAdds'. -/
def widthAddsUptoCard : Claim7 := { stood := { row := widthAddsUptoRow, standIns := [], harness := (true, "22e224c2588d9c3815dfc3a3a55ecb2e9aa82f8052bd523c7794a8c16ba801ce"), looks := false }, kinds := [], alts := [], laidByText := true, laidKinds := [.data], laidTests := true, laidLooks := .later }
def WidthAddsUptoCardSaid : Prop := Claim7.holds Tryd.pinned (.plain (OpenSpec.upto widthAddsSpec)) widthAddsUptoCard
end Rows
end Go.Proofs.YtdeckkmlcbbjcaaDoor
