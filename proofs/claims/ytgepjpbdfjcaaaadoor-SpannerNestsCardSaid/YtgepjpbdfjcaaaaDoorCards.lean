/-
  DERIVED. GIVEN WITH THE SEED: THE CARDS: each row of YtgepjpbdfjcaaaaDoorRows.lean that lists a variable, with what it lists TIED to the program's text (the seventh form; the later family's looks); each row that meets fmt, with fmt's text TOLD by the authors' own Lean function (tested against real Go, not proved from fmt's source: count such statements apart). THE CARD IS WHAT COUNTS. Prove the row's statement (the work); the ties are given (YtgepjpbdfjcaaaaDoorTie.lean); close each card by the builder's one call (the guide's Derived/Test/ToyasCard.lean, 'card_holds'). Laid BY PROGRAM, IN A SANDBOX (cutbox-door.mjs). By AI agents, Wed Nov 11 2026. No macro, syntax, notation, axiom, sorry.
-/
import Derived.Test.YtgepjpbdfjcaaaaDoorRows
import GoSem.ClaimSeven
namespace Go.Proofs.YtgepjpbdfjcaaaaDoor
namespace Rows

/-- THE TIED CARD OF 'hemiolalaw14.SpannerProper'. -/
def spannerProperCard : Claim7 := { stood := { row := spannerProperRow, standIns := [], harness := (true, "104533d283153e89540ccca5515efbc3b9ab0fd0357c0cc46ac89a8b2fd1ff52"), looks := false }, kinds := [], alts := [], laidByText := true, laidKinds := [.data], laidTests := true, laidLooks := .later }
def SpannerProperCardSaid : Prop := Claim7.holds Tryd.pinned (.plain (OpenSpec.ofChange spannerProperSpec)) spannerProperCard

/-- THE TIED CARD OF 'hemiolalaw14.SpannerConflicts'. -/
def spannerConflictsCard : Claim7 := { stood := { row := spannerConflictsRow, standIns := [], harness := (true, "104533d283153e89540ccca5515efbc3b9ab0fd0357c0cc46ac89a8b2fd1ff52"), looks := false }, kinds := [], alts := [], laidByText := true, laidKinds := [.data], laidTests := true, laidLooks := .later }
def SpannerConflictsCardSaid : Prop := Claim7.holds Tryd.pinned (.plain (OpenSpec.ofChange spannerConflictsSpec)) spannerConflictsCard

/-- THE TIED CARD OF 'hemiolalaw14.SpannerChecks'. -/
def spannerChecksCard : Claim7 := { stood := { row := spannerChecksRow, standIns := [], harness := (true, "104533d283153e89540ccca5515efbc3b9ab0fd0357c0cc46ac89a8b2fd1ff52"), looks := false }, kinds := [], alts := [], laidByText := true, laidKinds := [.data], laidTests := true, laidLooks := .later }
def SpannerChecksCardSaid : Prop := Claim7.holds Tryd.pinned (.plain (OpenSpec.ofChange spannerChecksSpec)) spannerChecksCard

/-- THE TIED CARD OF 'hemiolalaw14.SpannerOrders'. -/
def spannerOrdersCard : Claim7 := { stood := { row := spannerOrdersRow, standIns := [], harness := (true, "104533d283153e89540ccca5515efbc3b9ab0fd0357c0cc46ac89a8b2fd1ff52"), looks := false }, kinds := [], alts := [], laidByText := true, laidKinds := [.data], laidTests := true, laidLooks := .later }
def SpannerOrdersCardSaid : Prop := Claim7.holds Tryd.pinned (.plain (OpenSpec.ofChange spannerOrdersSpec)) spannerOrdersCard

/-- THE TIED CARD OF 'hemiolalaw14.SpannerNests'. -/
def spannerNestsCard : Claim7 := { stood := { row := spannerNestsRow, standIns := [], harness := (true, "104533d283153e89540ccca5515efbc3b9ab0fd0357c0cc46ac89a8b2fd1ff52"), looks := false }, kinds := [], alts := [], laidByText := true, laidKinds := [.data], laidTests := true, laidLooks := .later }
def SpannerNestsCardSaid : Prop := Claim7.holds Tryd.pinned (.plain (OpenSpec.ofChange spannerNestsSpec)) spannerNestsCard

/-- THE TIED CARD OF 'hemiolalaw14.SpannerLevels'. -/
def spannerLevelsCard : Claim7 := { stood := { row := spannerLevelsRow, standIns := [], harness := (true, "104533d283153e89540ccca5515efbc3b9ab0fd0357c0cc46ac89a8b2fd1ff52"), looks := false }, kinds := [], alts := [], laidByText := true, laidKinds := [.data], laidTests := true, laidLooks := .later }
def SpannerLevelsCardSaid : Prop := Claim7.holds Tryd.pinned (.plain (OpenSpec.ofChange spannerLevelsSpec)) spannerLevelsCard

/-- THE TIED CARD OF 'hemiolalaw14.SpannerCovers'. -/
def spannerCoversCard : Claim7 := { stood := { row := spannerCoversRow, standIns := [], harness := (true, "104533d283153e89540ccca5515efbc3b9ab0fd0357c0cc46ac89a8b2fd1ff52"), looks := false }, kinds := [], alts := [], laidByText := true, laidKinds := [.data], laidTests := true, laidLooks := .later }
def SpannerCoversCardSaid : Prop := Claim7.holds Tryd.pinned (.plain (OpenSpec.ofChange spannerCoversSpec)) spannerCoversCard

/-- THE TIED CARD OF 'hemiolalaw14.SpannerDivides'. -/
def spannerDividesCard : Claim7 := { stood := { row := spannerDividesRow, standIns := [], harness := (true, "104533d283153e89540ccca5515efbc3b9ab0fd0357c0cc46ac89a8b2fd1ff52"), looks := false }, kinds := [], alts := [], laidByText := true, laidKinds := [.data], laidTests := true, laidLooks := .later }
def SpannerDividesCardSaid : Prop := Claim7.holds Tryd.pinned (.plain (OpenSpec.ofChange spannerDividesSpec)) spannerDividesCard

/-- THE TIED CARD OF 'hemiolalaw14.SpannerNames'. -/
def spannerNamesCard : Claim7 := { stood := { row := spannerNamesRow, standIns := [], harness := (true, "104533d283153e89540ccca5515efbc3b9ab0fd0357c0cc46ac89a8b2fd1ff52"), looks := false }, kinds := [], alts := [], laidByText := true, laidKinds := [.data], laidTests := true, laidLooks := .later }
def SpannerNamesCardSaid : Prop := Claim7.holds Tryd.pinned (.plain (OpenSpec.ofChange spannerNamesSpec)) spannerNamesCard

/-- THE TIED CARD OF 'hemiolalaw14.SpannerLimit'. -/
def spannerLimitCard : Claim7 := { stood := { row := spannerLimitRow, standIns := [], harness := (true, "104533d283153e89540ccca5515efbc3b9ab0fd0357c0cc46ac89a8b2fd1ff52"), looks := false }, kinds := [], alts := [], laidByText := true, laidKinds := [.data], laidTests := true, laidLooks := .later }
def SpannerLimitCardSaid : Prop := Claim7.holds Tryd.pinned (.plain (OpenSpec.ofChange spannerLimitSpec)) spannerLimitCard

/-- THE SECOND FORM's CARD OF 'hemiolalaw14.SpannerProper'. -/
def spannerProperUptoCard : Claim7 := { stood := { row := spannerProperUptoRow, standIns := [], harness := (true, "104533d283153e89540ccca5515efbc3b9ab0fd0357c0cc46ac89a8b2fd1ff52"), looks := false }, kinds := [], alts := [], laidByText := true, laidKinds := [.data], laidTests := true, laidLooks := .later }
def SpannerProperUptoCardSaid : Prop := Claim7.holds Tryd.pinned (.plain (OpenSpec.upto spannerProperSpec)) spannerProperUptoCard

/-- THE SECOND FORM's CARD OF 'hemiolalaw14.SpannerConflicts'. -/
def spannerConflictsUptoCard : Claim7 := { stood := { row := spannerConflictsUptoRow, standIns := [], harness := (true, "104533d283153e89540ccca5515efbc3b9ab0fd0357c0cc46ac89a8b2fd1ff52"), looks := false }, kinds := [], alts := [], laidByText := true, laidKinds := [.data], laidTests := true, laidLooks := .later }
def SpannerConflictsUptoCardSaid : Prop := Claim7.holds Tryd.pinned (.plain (OpenSpec.upto spannerConflictsSpec)) spannerConflictsUptoCard

/-- THE SECOND FORM's CARD OF 'hemiolalaw14.SpannerChecks'. -/
def spannerChecksUptoCard : Claim7 := { stood := { row := spannerChecksUptoRow, standIns := [], harness := (true, "104533d283153e89540ccca5515efbc3b9ab0fd0357c0cc46ac89a8b2fd1ff52"), looks := false }, kinds := [], alts := [], laidByText := true, laidKinds := [.data], laidTests := true, laidLooks := .later }
def SpannerChecksUptoCardSaid : Prop := Claim7.holds Tryd.pinned (.plain (OpenSpec.upto spannerChecksSpec)) spannerChecksUptoCard

/-- THE SECOND FORM's CARD OF 'hemiolalaw14.SpannerOrders'. -/
def spannerOrdersUptoCard : Claim7 := { stood := { row := spannerOrdersUptoRow, standIns := [], harness := (true, "104533d283153e89540ccca5515efbc3b9ab0fd0357c0cc46ac89a8b2fd1ff52"), looks := false }, kinds := [], alts := [], laidByText := true, laidKinds := [.data], laidTests := true, laidLooks := .later }
def SpannerOrdersUptoCardSaid : Prop := Claim7.holds Tryd.pinned (.plain (OpenSpec.upto spannerOrdersSpec)) spannerOrdersUptoCard

/-- THE SECOND FORM's CARD OF 'hemiolalaw14.SpannerNests'. -/
def spannerNestsUptoCard : Claim7 := { stood := { row := spannerNestsUptoRow, standIns := [], harness := (true, "104533d283153e89540ccca5515efbc3b9ab0fd0357c0cc46ac89a8b2fd1ff52"), looks := false }, kinds := [], alts := [], laidByText := true, laidKinds := [.data], laidTests := true, laidLooks := .later }
def SpannerNestsUptoCardSaid : Prop := Claim7.holds Tryd.pinned (.plain (OpenSpec.upto spannerNestsSpec)) spannerNestsUptoCard

/-- THE SECOND FORM's CARD OF 'hemiolalaw14.SpannerLevels'. -/
def spannerLevelsUptoCard : Claim7 := { stood := { row := spannerLevelsUptoRow, standIns := [], harness := (true, "104533d283153e89540ccca5515efbc3b9ab0fd0357c0cc46ac89a8b2fd1ff52"), looks := false }, kinds := [], alts := [], laidByText := true, laidKinds := [.data], laidTests := true, laidLooks := .later }
def SpannerLevelsUptoCardSaid : Prop := Claim7.holds Tryd.pinned (.plain (OpenSpec.upto spannerLevelsSpec)) spannerLevelsUptoCard

/-- THE SECOND FORM's CARD OF 'hemiolalaw14.SpannerCovers'. -/
def spannerCoversUptoCard : Claim7 := { stood := { row := spannerCoversUptoRow, standIns := [], harness := (true, "104533d283153e89540ccca5515efbc3b9ab0fd0357c0cc46ac89a8b2fd1ff52"), looks := false }, kinds := [], alts := [], laidByText := true, laidKinds := [.data], laidTests := true, laidLooks := .later }
def SpannerCoversUptoCardSaid : Prop := Claim7.holds Tryd.pinned (.plain (OpenSpec.upto spannerCoversSpec)) spannerCoversUptoCard

/-- THE SECOND FORM's CARD OF 'hemiolalaw14.SpannerDivides'. -/
def spannerDividesUptoCard : Claim7 := { stood := { row := spannerDividesUptoRow, standIns := [], harness := (true, "104533d283153e89540ccca5515efbc3b9ab0fd0357c0cc46ac89a8b2fd1ff52"), looks := false }, kinds := [], alts := [], laidByText := true, laidKinds := [.data], laidTests := true, laidLooks := .later }
def SpannerDividesUptoCardSaid : Prop := Claim7.holds Tryd.pinned (.plain (OpenSpec.upto spannerDividesSpec)) spannerDividesUptoCard

/-- THE SECOND FORM's CARD OF 'hemiolalaw14.SpannerNames'. -/
def spannerNamesUptoCard : Claim7 := { stood := { row := spannerNamesUptoRow, standIns := [], harness := (true, "104533d283153e89540ccca5515efbc3b9ab0fd0357c0cc46ac89a8b2fd1ff52"), looks := false }, kinds := [], alts := [], laidByText := true, laidKinds := [.data], laidTests := true, laidLooks := .later }
def SpannerNamesUptoCardSaid : Prop := Claim7.holds Tryd.pinned (.plain (OpenSpec.upto spannerNamesSpec)) spannerNamesUptoCard

/-- THE SECOND FORM's CARD OF 'hemiolalaw14.SpannerLimit'. -/
def spannerLimitUptoCard : Claim7 := { stood := { row := spannerLimitUptoRow, standIns := [], harness := (true, "104533d283153e89540ccca5515efbc3b9ab0fd0357c0cc46ac89a8b2fd1ff52"), looks := false }, kinds := [], alts := [], laidByText := true, laidKinds := [.data], laidTests := true, laidLooks := .later }
def SpannerLimitUptoCardSaid : Prop := Claim7.holds Tryd.pinned (.plain (OpenSpec.upto spannerLimitSpec)) spannerLimitUptoCard
end Rows
end Go.Proofs.YtgepjpbdfjcaaaaDoor
