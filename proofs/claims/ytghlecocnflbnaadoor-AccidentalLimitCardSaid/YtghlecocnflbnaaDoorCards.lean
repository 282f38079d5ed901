/-
  DERIVED. GIVEN WITH THE SEED: THE CARDS: each row of YtghlecocnflbnaaDoorRows.lean that lists a variable, with what it lists TIED to the program's text (the seventh form; the later family's looks); each row that meets fmt, with fmt's text TOLD by the authors' own Lean function (tested against real Go, not proved from fmt's source: count such statements apart). THE CARD IS WHAT COUNTS. Prove the row's statement (the work); the ties are given (YtghlecocnflbnaaDoorTie.lean); close each card by the builder's one call (the guide's Derived/Test/ToyasCard.lean, 'card_holds'). Laid BY PROGRAM, IN A SANDBOX (cutbox-door.mjs). By AI agents, Wed Nov 11 2026. No macro, syntax, notation, axiom, sorry.
-/
import Derived.Test.YtghlecocnflbnaaDoorRows
import GoSem.ClaimSeven
namespace Go.Proofs.YtghlecocnflbnaaDoor
namespace Rows

/-- THE TIED CARD OF 'hemiolalaw10.AccidentalDisplays'. -/
def accidentalDisplaysCard : Claim7 := { stood := { row := accidentalDisplaysRow, standIns := [], harness := (true, "4264632c309685b5b10934852733a39ae7af05b3fbb51cbce9b1665c55e2b979"), looks := false }, kinds := [], alts := [], laidByText := true, laidKinds := [.data], laidTests := true, laidLooks := .later }
def AccidentalDisplaysCardSaid : Prop := Claim7.holds Tryd.pinned (.plain (OpenSpec.ofChange accidentalDisplaysSpec)) accidentalDisplaysCard

/-- THE TIED CARD OF 'hemiolalaw10.AccidentalReads'. -/
def accidentalReadsCard : Claim7 := { stood := { row := accidentalReadsRow, standIns := [], harness := (true, "4264632c309685b5b10934852733a39ae7af05b3fbb51cbce9b1665c55e2b979"), looks := false }, kinds := [], alts := [], laidByText := true, laidKinds := [.data], laidTests := true, laidLooks := .later }
def AccidentalReadsCardSaid : Prop := Claim7.holds Tryd.pinned (.plain (OpenSpec.ofChange accidentalReadsSpec)) accidentalReadsCard

/-- THE TIED CARD OF 'hemiolalaw10.AccidentalRoundTrip'. -/
def accidentalRoundTripCard : Claim7 := { stood := { row := accidentalRoundTripRow, standIns := [], harness := (true, "4264632c309685b5b10934852733a39ae7af05b3fbb51cbce9b1665c55e2b979"), looks := false }, kinds := [], alts := [], laidByText := true, laidKinds := [.data], laidTests := true, laidLooks := .later }
def AccidentalRoundTripCardSaid : Prop := Claim7.holds Tryd.pinned (.plain (OpenSpec.ofChange accidentalRoundTripSpec)) accidentalRoundTripCard

/-- THE TIED CARD OF 'hemiolalaw10.AccidentalNeeded'. -/
def accidentalNeededCard : Claim7 := { stood := { row := accidentalNeededRow, standIns := [], harness := (true, "4264632c309685b5b10934852733a39ae7af05b3fbb51cbce9b1665c55e2b979"), looks := false }, kinds := [], alts := [], laidByText := true, laidKinds := [.data], laidTests := true, laidLooks := .later }
def AccidentalNeededCardSaid : Prop := Claim7.holds Tryd.pinned (.plain (OpenSpec.ofChange accidentalNeededSpec)) accidentalNeededCard

/-- THE TIED CARD OF 'hemiolalaw10.AccidentalScale'. -/
def accidentalScaleCard : Claim7 := { stood := { row := accidentalScaleRow, standIns := [], harness := (true, "4264632c309685b5b10934852733a39ae7af05b3fbb51cbce9b1665c55e2b979"), looks := false }, kinds := [], alts := [], laidByText := true, laidKinds := [.data], laidTests := true, laidLooks := .later }
def AccidentalScaleCardSaid : Prop := Claim7.holds Tryd.pinned (.plain (OpenSpec.ofChange accidentalScaleSpec)) accidentalScaleCard

/-- THE TIED CARD OF 'hemiolalaw10.AccidentalShows'. -/
def accidentalShowsCard : Claim7 := { stood := { row := accidentalShowsRow, standIns := [], harness := (true, "4264632c309685b5b10934852733a39ae7af05b3fbb51cbce9b1665c55e2b979"), looks := false }, kinds := [], alts := [], laidByText := true, laidKinds := [.data], laidTests := true, laidLooks := .later }
def AccidentalShowsCardSaid : Prop := Claim7.holds Tryd.pinned (.plain (OpenSpec.ofChange accidentalShowsSpec)) accidentalShowsCard

/-- THE TIED CARD OF 'hemiolalaw10.AccidentalCarries'. -/
def accidentalCarriesCard : Claim7 := { stood := { row := accidentalCarriesRow, standIns := [], harness := (true, "4264632c309685b5b10934852733a39ae7af05b3fbb51cbce9b1665c55e2b979"), looks := false }, kinds := [], alts := [], laidByText := true, laidKinds := [.data], laidTests := true, laidLooks := .later }
def AccidentalCarriesCardSaid : Prop := Claim7.holds Tryd.pinned (.plain (OpenSpec.ofChange accidentalCarriesSpec)) accidentalCarriesCard

/-- THE TIED CARD OF 'hemiolalaw10.AccidentalBefore'. -/
def accidentalBeforeCard : Claim7 := { stood := { row := accidentalBeforeRow, standIns := [], harness := (true, "4264632c309685b5b10934852733a39ae7af05b3fbb51cbce9b1665c55e2b979"), looks := false }, kinds := [], alts := [], laidByText := true, laidKinds := [.data], laidTests := true, laidLooks := .later }
def AccidentalBeforeCardSaid : Prop := Claim7.holds Tryd.pinned (.plain (OpenSpec.ofChange accidentalBeforeSpec)) accidentalBeforeCard

/-- THE TIED CARD OF 'hemiolalaw10.AccidentalKinds'. -/
def accidentalKindsCard : Claim7 := { stood := { row := accidentalKindsRow, standIns := [], harness := (true, "4264632c309685b5b10934852733a39ae7af05b3fbb51cbce9b1665c55e2b979"), looks := false }, kinds := [], alts := [], laidByText := true, laidKinds := [.data], laidTests := true, laidLooks := .later }
def AccidentalKindsCardSaid : Prop := Claim7.holds Tryd.pinned (.plain (OpenSpec.ofChange accidentalKindsSpec)) accidentalKindsCard

/-- THE TIED CARD OF 'hemiolalaw10.AccidentalLimit'. -/
def accidentalLimitCard : Claim7 := { stood := { row := accidentalLimitRow, standIns := [], harness := (true, "4264632c309685b5b10934852733a39ae7af05b3fbb51cbce9b1665c55e2b979"), looks := false }, kinds := [], alts := [], laidByText := true, laidKinds := [.data], laidTests := true, laidLooks := .later }
def AccidentalLimitCardSaid : Prop := Claim7.holds Tryd.pinned (.plain (OpenSpec.ofChange accidentalLimitSpec)) accidentalLimitCard

/-- THE SECOND FORM's CARD OF 'hemiolalaw10.AccidentalDisplays'. -/
def accidentalDisplaysUptoCard : Claim7 := { stood := { row := accidentalDisplaysUptoRow, standIns := [], harness := (true, "4264632c309685b5b10934852733a39ae7af05b3fbb51cbce9b1665c55e2b979"), looks := false }, kinds := [], alts := [], laidByText := true, laidKinds := [.data], laidTests := true, laidLooks := .later }
def AccidentalDisplaysUptoCardSaid : Prop := Claim7.holds Tryd.pinned (.plain (OpenSpec.upto accidentalDisplaysSpec)) accidentalDisplaysUptoCard

/-- THE SECOND FORM's CARD OF 'hemiolalaw10.AccidentalReads'. -/
def accidentalReadsUptoCard : Claim7 := { stood := { row := accidentalReadsUptoRow, standIns := [], harness := (true, "4264632c309685b5b10934852733a39ae7af05b3fbb51cbce9b1665c55e2b979"), looks := false }, kinds := [], alts := [], laidByText := true, laidKinds := [.data], laidTests := true, laidLooks := .later }
def AccidentalReadsUptoCardSaid : Prop := Claim7.holds Tryd.pinned (.plain (OpenSpec.upto accidentalReadsSpec)) accidentalReadsUptoCard

/-- THE SECOND FORM's CARD OF 'hemiolalaw10.AccidentalRoundTrip'. -/
def accidentalRoundTripUptoCard : Claim7 := { stood := { row := accidentalRoundTripUptoRow, standIns := [], harness := (true, "4264632c309685b5b10934852733a39ae7af05b3fbb51cbce9b1665c55e2b979"), looks := false }, kinds := [], alts := [], laidByText := true, laidKinds := [.data], laidTests := true, laidLooks := .later }
def AccidentalRoundTripUptoCardSaid : Prop := Claim7.holds Tryd.pinned (.plain (OpenSpec.upto accidentalRoundTripSpec)) accidentalRoundTripUptoCard

/-- THE SECOND FORM's CARD OF 'hemiolalaw10.AccidentalNeeded'. -/
def accidentalNeededUptoCard : Claim7 := { stood := { row := accidentalNeededUptoRow, standIns := [], harness := (true, "4264632c309685b5b10934852733a39ae7af05b3fbb51cbce9b1665c55e2b979"), looks := false }, kinds := [], alts := [], laidByText := true, laidKinds := [.data], laidTests := true, laidLooks := .later }
def AccidentalNeededUptoCardSaid : Prop := Claim7.holds Tryd.pinned (.plain (OpenSpec.upto accidentalNeededSpec)) accidentalNeededUptoCard

/-- THE SECOND FORM's CARD OF 'hemiolalaw10.AccidentalScale'. -/
def accidentalScaleUptoCard : Claim7 := { stood := { row := accidentalScaleUptoRow, standIns := [], harness := (true, "4264632c309685b5b10934852733a39ae7af05b3fbb51cbce9b1665c55e2b979"), looks := false }, kinds := [], alts := [], laidByText := true, laidKinds := [.data], laidTests := true, laidLooks := .later }
def AccidentalScaleUptoCardSaid : Prop := Claim7.holds Tryd.pinned (.plain (OpenSpec.upto accidentalScaleSpec)) accidentalScaleUptoCard

/-- THE SECOND FORM's CARD OF 'hemiolalaw10.AccidentalShows'. -/
def accidentalShowsUptoCard : Claim7 := { stood := { row := accidentalShowsUptoRow, standIns := [], harness := (true, "4264632c309685b5b10934852733a39ae7af05b3fbb51cbce9b1665c55e2b979"), looks := false }, kinds := [], alts := [], laidByText := true, laidKinds := [.data], laidTests := true, laidLooks := .later }
def AccidentalShowsUptoCardSaid : Prop := Claim7.holds Tryd.pinned (.plain (OpenSpec.upto accidentalShowsSpec)) accidentalShowsUptoCard

/-- THE SECOND FORM's CARD OF 'hemiolalaw10.AccidentalCarries'. -/
def accidentalCarriesUptoCard : Claim7 := { stood := { row := accidentalCarriesUptoRow, standIns := [], harness := (true, "4264632c309685b5b10934852733a39ae7af05b3fbb51cbce9b1665c55e2b979"), looks := false }, kinds := [], alts := [], laidByText := true, laidKinds := [.data], laidTests := true, laidLooks := .later }
def AccidentalCarriesUptoCardSaid : Prop := Claim7.holds Tryd.pinned (.plain (OpenSpec.upto accidentalCarriesSpec)) accidentalCarriesUptoCard

/-- THE SECOND FORM's CARD OF 'hemiolalaw10.AccidentalBefore'. -/
def accidentalBeforeUptoCard : Claim7 := { stood := { row := accidentalBeforeUptoRow, standIns := [], harness := (true, "4264632c309685b5b10934852733a39ae7af05b3fbb51cbce9b1665c55e2b979"), looks := false }, kinds := [], alts := [], laidByText := true, laidKinds := [.data], laidTests := true, laidLooks := .later }
def AccidentalBeforeUptoCardSaid : Prop := Claim7.holds Tryd.pinned (.plain (OpenSpec.upto accidentalBeforeSpec)) accidentalBeforeUptoCard

/-- THE SECOND FORM's CARD OF 'hemiolalaw10.AccidentalKinds'. -/
def accidentalKindsUptoCard : Claim7 := { stood := { row := accidentalKindsUptoRow, standIns := [], harness := (true, "4264632c309685b5b10934852733a39ae7af05b3fbb51cbce9b1665c55e2b979"), looks := false }, kinds := [], alts := [], laidByText := true, laidKinds := [.data], laidTests := true, laidLooks := .later }
def AccidentalKindsUptoCardSaid : Prop := Claim7.holds Tryd.pinned (.plain (OpenSpec.upto accidentalKindsSpec)) accidentalKindsUptoCard

/-- THE SECOND FORM's CARD OF 'hemiolalaw10.AccidentalLimit'. -/
def accidentalLimitUptoCard : Claim7 := { stood := { row := accidentalLimitUptoRow, standIns := [], harness := (true, "4264632c309685b5b10934852733a39ae7af05b3fbb51cbce9b1665c55e2b979"), looks := false }, kinds := [], alts := [], laidByText := true, laidKinds := [.data], laidTests := true, laidLooks := .later }
def AccidentalLimitUptoCardSaid : Prop := Claim7.holds Tryd.pinned (.plain (OpenSpec.upto accidentalLimitSpec)) accidentalLimitUptoCard
end Rows
end Go.Proofs.YtghlecocnflbnaaDoor
