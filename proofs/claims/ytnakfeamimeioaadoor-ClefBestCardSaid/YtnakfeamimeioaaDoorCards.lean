/-
  DERIVED. GIVEN WITH THE SEED: THE CARDS: each row of YtnakfeamimeioaaDoorRows.lean that lists a variable, with what it lists TIED to the program's text (the seventh form; the later family's looks); each row that meets fmt, with fmt's text TOLD by the authors' own Lean function (tested against real Go, not proved from fmt's source: count such statements apart). THE CARD IS WHAT COUNTS. Prove the row's statement (the work); the ties are given (YtnakfeamimeioaaDoorTie.lean); close each card by the builder's one call (the guide's Derived/Test/ToyasCard.lean, 'card_holds'). Laid BY PROGRAM, IN A SANDBOX (cutbox-door.mjs). By AI agents, Wed Nov 11 2026. No macro, syntax, notation, axiom, sorry.
-/
import Derived.Test.YtnakfeamimeioaaDoorRows
import GoSem.ClaimSeven
namespace Go.Proofs.YtnakfeamimeioaaDoor
namespace Rows

/-- THE TIED CARD OF 'hemiolalaw08.ClefPositions'. -/
def clefPositionsCard : Claim7 := { stood := { row := clefPositionsRow, standIns := [], harness := (true, "ae3d3630bcff25fd33e59354a4ec782dc285709024c716b55dd2ba349c01efa0"), looks := false }, kinds := [], alts := [], laidByText := true, laidKinds := [.data, .data, .data], laidTests := true, laidLooks := .later }
def ClefPositionsCardSaid : Prop := Claim7.holds Tryd.pinned (.plain (OpenSpec.ofChange clefPositionsSpec)) clefPositionsCard

/-- THE TIED CARD OF 'hemiolalaw08.ClefInverts'. -/
def clefInvertsCard : Claim7 := { stood := { row := clefInvertsRow, standIns := [], harness := (true, "ae3d3630bcff25fd33e59354a4ec782dc285709024c716b55dd2ba349c01efa0"), looks := false }, kinds := [], alts := [], laidByText := true, laidKinds := [.data, .data, .data], laidTests := true, laidLooks := .later }
def ClefInvertsCardSaid : Prop := Claim7.holds Tryd.pinned (.plain (OpenSpec.ofChange clefInvertsSpec)) clefInvertsCard

/-- THE TIED CARD OF 'hemiolalaw08.ClefSteps'. -/
def clefStepsCard : Claim7 := { stood := { row := clefStepsRow, standIns := [], harness := (true, "ae3d3630bcff25fd33e59354a4ec782dc285709024c716b55dd2ba349c01efa0"), looks := false }, kinds := [], alts := [], laidByText := true, laidKinds := [.data, .data, .data], laidTests := true, laidLooks := .later }
def ClefStepsCardSaid : Prop := Claim7.holds Tryd.pinned (.plain (OpenSpec.ofChange clefStepsSpec)) clefStepsCard

/-- THE TIED CARD OF 'hemiolalaw08.ClefLedgers'. -/
def clefLedgersCard : Claim7 := { stood := { row := clefLedgersRow, standIns := [], harness := (true, "ae3d3630bcff25fd33e59354a4ec782dc285709024c716b55dd2ba349c01efa0"), looks := false }, kinds := [], alts := [], laidByText := true, laidKinds := [.data, .data, .data], laidTests := true, laidLooks := .later }
def ClefLedgersCardSaid : Prop := Claim7.holds Tryd.pinned (.plain (OpenSpec.ofChange clefLedgersSpec)) clefLedgersCard

/-- THE TIED CARD OF 'hemiolalaw08.ClefMirrors'. -/
def clefMirrorsCard : Claim7 := { stood := { row := clefMirrorsRow, standIns := [], harness := (true, "ae3d3630bcff25fd33e59354a4ec782dc285709024c716b55dd2ba349c01efa0"), looks := false }, kinds := [], alts := [], laidByText := true, laidKinds := [.data, .data, .data], laidTests := true, laidLooks := .later }
def ClefMirrorsCardSaid : Prop := Claim7.holds Tryd.pinned (.plain (OpenSpec.ofChange clefMirrorsSpec)) clefMirrorsCard

/-- THE TIED CARD OF 'hemiolalaw08.ClefSignatures'. -/
def clefSignaturesCard : Claim7 := { stood := { row := clefSignaturesRow, standIns := [], harness := (true, "ae3d3630bcff25fd33e59354a4ec782dc285709024c716b55dd2ba349c01efa0"), looks := false }, kinds := [], alts := [], laidByText := true, laidKinds := [.data, .data, .data], laidTests := true, laidLooks := .later }
def ClefSignaturesCardSaid : Prop := Claim7.holds Tryd.pinned (.plain (OpenSpec.ofChange clefSignaturesSpec)) clefSignaturesCard

/-- THE TIED CARD OF 'hemiolalaw08.ClefShapes'. -/
def clefShapesCard : Claim7 := { stood := { row := clefShapesRow, standIns := [], harness := (true, "ae3d3630bcff25fd33e59354a4ec782dc285709024c716b55dd2ba349c01efa0"), looks := false }, kinds := [], alts := [], laidByText := true, laidKinds := [.data, .data, .data], laidTests := true, laidLooks := .later }
def ClefShapesCardSaid : Prop := Claim7.holds Tryd.pinned (.plain (OpenSpec.ofChange clefShapesSpec)) clefShapesCard

/-- THE TIED CARD OF 'hemiolalaw08.ClefBest'. -/
def clefBestCard : Claim7 := { stood := { row := clefBestRow, standIns := [], harness := (true, "ae3d3630bcff25fd33e59354a4ec782dc285709024c716b55dd2ba349c01efa0"), looks := false }, kinds := [], alts := [], laidByText := true, laidKinds := [.data, .data, .data], laidTests := true, laidLooks := .later }
def ClefBestCardSaid : Prop := Claim7.holds Tryd.pinned (.plain (OpenSpec.ofChange clefBestSpec)) clefBestCard

/-- THE TIED CARD OF 'hemiolalaw08.ClefNames'. -/
def clefNamesCard : Claim7 := { stood := { row := clefNamesRow, standIns := [], harness := (true, "ae3d3630bcff25fd33e59354a4ec782dc285709024c716b55dd2ba349c01efa0"), looks := false }, kinds := [], alts := [], laidByText := true, laidKinds := [.data, .data, .data], laidTests := true, laidLooks := .later }
def ClefNamesCardSaid : Prop := Claim7.holds Tryd.pinned (.plain (OpenSpec.ofChange clefNamesSpec)) clefNamesCard

/-- THE SECOND FORM's CARD OF 'hemiolalaw08.ClefPositions'. -/
def clefPositionsUptoCard : Claim7 := { stood := { row := clefPositionsUptoRow, standIns := [], harness := (true, "ae3d3630bcff25fd33e59354a4ec782dc285709024c716b55dd2ba349c01efa0"), looks := false }, kinds := [], alts := [], laidByText := true, laidKinds := [.data, .data, .data], laidTests := true, laidLooks := .later }
def ClefPositionsUptoCardSaid : Prop := Claim7.holds Tryd.pinned (.plain (OpenSpec.upto clefPositionsSpec)) clefPositionsUptoCard

/-- THE SECOND FORM's CARD OF 'hemiolalaw08.ClefInverts'. -/
def clefInvertsUptoCard : Claim7 := { stood := { row := clefInvertsUptoRow, standIns := [], harness := (true, "ae3d3630bcff25fd33e59354a4ec782dc285709024c716b55dd2ba349c01efa0"), looks := false }, kinds := [], alts := [], laidByText := true, laidKinds := [.data, .data, .data], laidTests := true, laidLooks := .later }
def ClefInvertsUptoCardSaid : Prop := Claim7.holds Tryd.pinned (.plain (OpenSpec.upto clefInvertsSpec)) clefInvertsUptoCard

/-- THE SECOND FORM's CARD OF 'hemiolalaw08.ClefSteps'. -/
def clefStepsUptoCard : Claim7 := { stood := { row := clefStepsUptoRow, standIns := [], harness := (true, "ae3d3630bcff25fd33e59354a4ec782dc285709024c716b55dd2ba349c01efa0"), looks := false }, kinds := [], alts := [], laidByText := true, laidKinds := [.data, .data, .data], laidTests := true, laidLooks := .later }
def ClefStepsUptoCardSaid : Prop := Claim7.holds Tryd.pinned (.plain (OpenSpec.upto clefStepsSpec)) clefStepsUptoCard

/-- THE SECOND FORM's CARD OF 'hemiolalaw08.ClefLedgers'. -/
def clefLedgersUptoCard : Claim7 := { stood := { row := clefLedgersUptoRow, standIns := [], harness := (true, "ae3d3630bcff25fd33e59354a4ec782dc285709024c716b55dd2ba349c01efa0"), looks := false }, kinds := [], alts := [], laidByText := true, laidKinds := [.data, .data, .data], laidTests := true, laidLooks := .later }
def ClefLedgersUptoCardSaid : Prop := Claim7.holds Tryd.pinned (.plain (OpenSpec.upto clefLedgersSpec)) clefLedgersUptoCard

/-- THE SECOND FORM's CARD OF 'hemiolalaw08.ClefMirrors'. -/
def clefMirrorsUptoCard : Claim7 := { stood := { row := clefMirrorsUptoRow, standIns := [], harness := (true, "ae3d3630bcff25fd33e59354a4ec782dc285709024c716b55dd2ba349c01efa0"), looks := false }, kinds := [], alts := [], laidByText := true, laidKinds := [.data, .data, .data], laidTests := true, laidLooks := .later }
def ClefMirrorsUptoCardSaid : Prop := Claim7.holds Tryd.pinned (.plain (OpenSpec.upto clefMirrorsSpec)) clefMirrorsUptoCard

/-- THE SECOND FORM's CARD OF 'hemiolalaw08.ClefSignatures'. -/
def clefSignaturesUptoCard : Claim7 := { stood := { row := clefSignaturesUptoRow, standIns := [], harness := (true, "ae3d3630bcff25fd33e59354a4ec782dc285709024c716b55dd2ba349c01efa0"), looks := false }, kinds := [], alts := [], laidByText := true, laidKinds := [.data, .data, .data], laidTests := true, laidLooks := .later }
def ClefSignaturesUptoCardSaid : Prop := Claim7.holds Tryd.pinned (.plain (OpenSpec.upto clefSignaturesSpec)) clefSignaturesUptoCard

/-- THE SECOND FORM's CARD OF 'hemiolalaw08.ClefShapes'. -/
def clefShapesUptoCard : Claim7 := { stood := { row := clefShapesUptoRow, standIns := [], harness := (true, "ae3d3630bcff25fd33e59354a4ec782dc285709024c716b55dd2ba349c01efa0"), looks := false }, kinds := [], alts := [], laidByText := true, laidKinds := [.data, .data, .data], laidTests := true, laidLooks := .later }
def ClefShapesUptoCardSaid : Prop := Claim7.holds Tryd.pinned (.plain (OpenSpec.upto clefShapesSpec)) clefShapesUptoCard

/-- THE SECOND FORM's CARD OF 'hemiolalaw08.ClefBest'. -/
def clefBestUptoCard : Claim7 := { stood := { row := clefBestUptoRow, standIns := [], harness := (true, "ae3d3630bcff25fd33e59354a4ec782dc285709024c716b55dd2ba349c01efa0"), looks := false }, kinds := [], alts := [], laidByText := true, laidKinds := [.data, .data, .data], laidTests := true, laidLooks := .later }
def ClefBestUptoCardSaid : Prop := Claim7.holds Tryd.pinned (.plain (OpenSpec.upto clefBestSpec)) clefBestUptoCard

/-- THE SECOND FORM's CARD OF 'hemiolalaw08.ClefNames'. -/
def clefNamesUptoCard : Claim7 := { stood := { row := clefNamesUptoRow, standIns := [], harness := (true, "ae3d3630bcff25fd33e59354a4ec782dc285709024c716b55dd2ba349c01efa0"), looks := false }, kinds := [], alts := [], laidByText := true, laidKinds := [.data, .data, .data], laidTests := true, laidLooks := .later }
def ClefNamesUptoCardSaid : Prop := Claim7.holds Tryd.pinned (.plain (OpenSpec.upto clefNamesSpec)) clefNamesUptoCard
end Rows
end Go.Proofs.YtnakfeamimeioaaDoor
