/-
  DERIVED. GIVEN WITH THE SEED: THE CARDS: each row of YtipamoakeccecaaDoorRows.lean that lists a variable, with what it lists TIED to the program's text (the seventh form; the later family's looks); each row that meets fmt, with fmt's text TOLD by the authors' own Lean function (tested against real Go, not proved from fmt's source: count such statements apart). THE CARD IS WHAT COUNTS. Prove the row's statement (the work); the ties are given (YtipamoakeccecaaDoorTie.lean); close each card by the builder's one call (the guide's Derived/Test/ToyasCard.lean, 'card_holds'). Laid BY PROGRAM, IN A SANDBOX (cutbox-door.mjs). By AI agents, Wed Nov 11 2026. No macro, syntax, notation, axiom, sorry.
-/
import Derived.Test.YtipamoakeccecaaDoorRows
import GoSem.ClaimSeven
namespace Go.Proofs.YtipamoakeccecaaDoor
namespace Rows

/-- THE TIED CARD OF 'hemiolalaw05.PitchCompares'. -/
def pitchComparesCard : Claim7 := { stood := { row := pitchComparesRow, standIns := [], harness := (true, "6d839fde6dde4fb7f0d8ace980d69bba81384e12fed5fe44027b640d5449198e"), looks := true }, kinds := [], alts := [], laidByText := true, laidKinds := [.data, .data, .data, .data, .sentinel, .sentinel, .data, .data, .pinned], laidTests := true, laidLooks := .later }
def PitchComparesCardSaid : Prop := Claim7.holds Tryd.pinned (.plain (OpenSpec.ofChange pitchComparesSpec)) pitchComparesCard

/-- THE SECOND FORM's CARD OF 'hemiolalaw05.PitchCompares'. -/
def pitchComparesUptoCard : Claim7 := { stood := { row := pitchComparesUptoRow, standIns := [], harness := (true, "6d839fde6dde4fb7f0d8ace980d69bba81384e12fed5fe44027b640d5449198e"), looks := true }, kinds := [], alts := [], laidByText := true, laidKinds := [.data, .data, .data, .data, .sentinel, .sentinel, .data, .data, .pinned], laidTests := true, laidLooks := .later }
def PitchComparesUptoCardSaid : Prop := Claim7.holds Tryd.pinned (.plain (OpenSpec.upto pitchComparesSpec)) pitchComparesUptoCard
end Rows
end Go.Proofs.YtipamoakeccecaaDoor
