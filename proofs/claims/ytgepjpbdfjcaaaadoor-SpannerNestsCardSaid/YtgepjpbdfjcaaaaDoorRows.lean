/-
  NARROWER THAN 'FOR EVERY INPUT', by the rows' own cells (each row's printed sentence says how): SpannerProper: laid · SpannerConflicts: laid · SpannerChecks: laid · SpannerOrders: laid · SpannerNests: laid · SpannerLevels: laid · SpannerCovers: laid · SpannerDivides: laid · SpannerNames: laid · SpannerLimit: laid.
  DERIVED. THE GIVEN ROWS OF THIS SEAT. 10 by the template 'for every input the law returns true; each argument reads behind the call as it read before'; 0 by the template 'total and deterministic' (their statements: YtgepjpbdfjcaaaaDoorTotals.lean).
  GIVEN WITH THE SEED: the statements are not yours to turn. If you find one false, say at which input.
  Laid BY PROGRAM, IN A SANDBOX (cutbox-rows.mjs): the forced cells as the released guide's own fill.sh prints them over the translation 4d354db85c5e9bcf… (all of the seat's roots in one cut). By AI agents, Wed Nov 11 2026. No macro, syntax, notation, axiom, sorry.
-/
import Derived.Test.YtgepjpbdfjcaaaaDoorChecked
import GoSem.Claim
import GoSem.ClaimJoined
import GoSem.ClaimMapViews
import Derived.JoinedTies
import Derived.KernelRfl
namespace Go.Proofs.YtgepjpbdfjcaaaaDoor
/- THE CELL 'sum', in the pinned program and in every row, IS THE sha256 OF THE DUMP (.gsa) THAT YtgepjpbdfjcaaaaDoorProg.lean LOADS. Nothing in Lean hashes anything: it is a label: what it is worth is what the hold of that sum in a sandbox is worth. -/
noncomputable def Tryd.pinned : Pinned := { name := "ytgepjpbdfjcaaaadoor", sum := "4d354db85c5e9bcfda22dcebfe4a395f8d903310ad0c91b3c67522e2f1b80ee0", checked := Tryd.checked }
namespace Rows
def none {H : Type} : Left H := { results := [], args := [] }

/- WHAT THE LISTED PACKAGE-LEVEL VARIABLES READ AS WHEN THE CALL BEGINS. Each datum BY PROGRAM (the guide's laid-datum.mjs) off the statement by which the dump's own 'gosem.cut.vars' lays the variable. In a bare row this is a premise. The card (YtgepjpbdfjcaaaaDoorCards.lean) ties it to the program's text. -/
def laid_hemiola_spanner_names {H : Type} : DataW H := .agg [.lit (.string []), .lit (.string [115, 108, 117, 114]), .lit (.string [99, 114, 101, 115, 99, 101, 110, 100, 111]), .lit (.string [100, 105, 109, 105, 110, 117, 101, 110, 100, 111]), .lit (.string [56, 118, 97]), .lit (.string [56, 118, 98]), .lit (.string [112, 101, 100, 97, 108]), .lit (.string [116, 114, 105, 108, 108])]

/-- 'hemiolalaw14.SpannerProper': WHATEVER THE INPUT: true; the input reads as it did. -/
def spannerProperSpec : ChangeSpec := { name := "spannerProper", fn := fun _ => fun
  | [d] => { results := [.lit (.bool true)], args := [d] }
  | _ => none }
def spannerProperRow : OpenClaim := { program := "ytgepjpbdfjcaaaadoor", sum := "4d354db85c5e9bcfda22dcebfe4a395f8d903310ad0c91b3c67522e2f1b80ee0", func := "hemiola/hemiolalaw14.SpannerProper", spec := "spannerProper", unfollowed := true, recurses := true, named := ["hemiola/spanner.names"], apart := false, laid := [("hemiola/spanner.names", laid_hemiola_spanner_names)] }
def SpannerProperSaid : Prop := spannerProperRow.holds Tryd.pinned (OpenSpec.ofChange spannerProperSpec)

/-- ITS FALSE NEIGHBOUR: 'it returns false'. Refute it at one input. -/
def spannerProperWrong : ChangeSpec := { name := "spannerProper", fn := fun _ => fun
  | [d] => { results := [.lit (.bool false)], args := [d] }
  | _ => none }
def SpannerProperWrongFalsely : Prop := spannerProperRow.holds Tryd.pinned (OpenSpec.ofChange spannerProperWrong)

/-- 'hemiolalaw14.SpannerConflicts': WHATEVER THE INPUT: true; the input reads as it did. -/
def spannerConflictsSpec : ChangeSpec := { name := "spannerConflicts", fn := fun _ => fun
  | [d1, d2] => { results := [.lit (.bool true)], args := [d1, d2] }
  | _ => none }
def spannerConflictsRow : OpenClaim := { program := "ytgepjpbdfjcaaaadoor", sum := "4d354db85c5e9bcfda22dcebfe4a395f8d903310ad0c91b3c67522e2f1b80ee0", func := "hemiola/hemiolalaw14.SpannerConflicts", spec := "spannerConflicts", unfollowed := true, recurses := true, named := ["hemiola/spanner.names"], apart := false, laid := [("hemiola/spanner.names", laid_hemiola_spanner_names)] }
def SpannerConflictsSaid : Prop := spannerConflictsRow.holds Tryd.pinned (OpenSpec.ofChange spannerConflictsSpec)

/-- ITS FALSE NEIGHBOUR: 'it returns false'. Refute it at one input. -/
def spannerConflictsWrong : ChangeSpec := { name := "spannerConflicts", fn := fun _ => fun
  | [d1, d2] => { results := [.lit (.bool false)], args := [d1, d2] }
  | _ => none }
def SpannerConflictsWrongFalsely : Prop := spannerConflictsRow.holds Tryd.pinned (OpenSpec.ofChange spannerConflictsWrong)

/-- 'hemiolalaw14.SpannerChecks': WHATEVER THE INPUT: true; the input reads as it did. -/
def spannerChecksSpec : ChangeSpec := { name := "spannerChecks", fn := fun _ => fun
  | [d] => { results := [.lit (.bool true)], args := [d] }
  | _ => none }
def spannerChecksRow : OpenClaim := { program := "ytgepjpbdfjcaaaadoor", sum := "4d354db85c5e9bcfda22dcebfe4a395f8d903310ad0c91b3c67522e2f1b80ee0", func := "hemiola/hemiolalaw14.SpannerChecks", spec := "spannerChecks", unfollowed := true, recurses := true, named := ["hemiola/spanner.names"], apart := false, laid := [("hemiola/spanner.names", laid_hemiola_spanner_names)] }
def SpannerChecksSaid : Prop := spannerChecksRow.holds Tryd.pinned (OpenSpec.ofChange spannerChecksSpec)

/-- ITS FALSE NEIGHBOUR: 'it returns false'. Refute it at one input. -/
def spannerChecksWrong : ChangeSpec := { name := "spannerChecks", fn := fun _ => fun
  | [d] => { results := [.lit (.bool false)], args := [d] }
  | _ => none }
def SpannerChecksWrongFalsely : Prop := spannerChecksRow.holds Tryd.pinned (OpenSpec.ofChange spannerChecksWrong)

/-- 'hemiolalaw14.SpannerOrders': WHATEVER THE INPUT: true; the input reads as it did. -/
def spannerOrdersSpec : ChangeSpec := { name := "spannerOrders", fn := fun _ => fun
  | [d1, d2] => { results := [.lit (.bool true)], args := [d1, d2] }
  | _ => none }
def spannerOrdersRow : OpenClaim := { program := "ytgepjpbdfjcaaaadoor", sum := "4d354db85c5e9bcfda22dcebfe4a395f8d903310ad0c91b3c67522e2f1b80ee0", func := "hemiola/hemiolalaw14.SpannerOrders", spec := "spannerOrders", unfollowed := true, recurses := true, named := ["hemiola/spanner.names"], apart := false, laid := [("hemiola/spanner.names", laid_hemiola_spanner_names)] }
def SpannerOrdersSaid : Prop := spannerOrdersRow.holds Tryd.pinned (OpenSpec.ofChange spannerOrdersSpec)

/-- ITS FALSE NEIGHBOUR: 'it returns false'. Refute it at one input. -/
def spannerOrdersWrong : ChangeSpec := { name := "spannerOrders", fn := fun _ => fun
  | [d1, d2] => { results := [.lit (.bool false)], args := [d1, d2] }
  | _ => none }
def SpannerOrdersWrongFalsely : Prop := spannerOrdersRow.holds Tryd.pinned (OpenSpec.ofChange spannerOrdersWrong)

/-- 'hemiolalaw14.SpannerNests': WHATEVER THE INPUT: true; the input reads as it did. -/
def spannerNestsSpec : ChangeSpec := { name := "spannerNests", fn := fun _ => fun
  | [d1, d2] => { results := [.lit (.bool true)], args := [d1, d2] }
  | _ => none }
def spannerNestsRow : OpenClaim := { program := "ytgepjpbdfjcaaaadoor", sum := "4d354db85c5e9bcfda22dcebfe4a395f8d903310ad0c91b3c67522e2f1b80ee0", func := "hemiola/hemiolalaw14.SpannerNests", spec := "spannerNests", unfollowed := true, recurses := true, named := ["hemiola/spanner.names"], apart := false, laid := [("hemiola/spanner.names", laid_hemiola_spanner_names)] }
def SpannerNestsSaid : Prop := spannerNestsRow.holds Tryd.pinned (OpenSpec.ofChange spannerNestsSpec)

/-- ITS FALSE NEIGHBOUR: 'it returns false'. Refute it at one input. -/
def spannerNestsWrong : ChangeSpec := { name := "spannerNests", fn := fun _ => fun
  | [d1, d2] => { results := [.lit (.bool false)], args := [d1, d2] }
  | _ => none }
def SpannerNestsWrongFalsely : Prop := spannerNestsRow.holds Tryd.pinned (OpenSpec.ofChange spannerNestsWrong)

/-- 'hemiolalaw14.SpannerLevels': WHATEVER THE INPUT: true; the input reads as it did. -/
def spannerLevelsSpec : ChangeSpec := { name := "spannerLevels", fn := fun _ => fun
  | [d] => { results := [.lit (.bool true)], args := [d] }
  | _ => none }
def spannerLevelsRow : OpenClaim := { program := "ytgepjpbdfjcaaaadoor", sum := "4d354db85c5e9bcfda22dcebfe4a395f8d903310ad0c91b3c67522e2f1b80ee0", func := "hemiola/hemiolalaw14.SpannerLevels", spec := "spannerLevels", unfollowed := true, recurses := true, named := ["hemiola/spanner.names"], apart := false, laid := [("hemiola/spanner.names", laid_hemiola_spanner_names)] }
def SpannerLevelsSaid : Prop := spannerLevelsRow.holds Tryd.pinned (OpenSpec.ofChange spannerLevelsSpec)

/-- ITS FALSE NEIGHBOUR: 'it returns false'. Refute it at one input. -/
def spannerLevelsWrong : ChangeSpec := { name := "spannerLevels", fn := fun _ => fun
  | [d] => { results := [.lit (.bool false)], args := [d] }
  | _ => none }
def SpannerLevelsWrongFalsely : Prop := spannerLevelsRow.holds Tryd.pinned (OpenSpec.ofChange spannerLevelsWrong)

/-- 'hemiolalaw14.SpannerCovers': WHATEVER THE INPUT: true; the input reads as it did. -/
def spannerCoversSpec : ChangeSpec := { name := "spannerCovers", fn := fun _ => fun
  | [d1, d2, d3] => { results := [.lit (.bool true)], args := [d1, d2, d3] }
  | _ => none }
def spannerCoversRow : OpenClaim := { program := "ytgepjpbdfjcaaaadoor", sum := "4d354db85c5e9bcfda22dcebfe4a395f8d903310ad0c91b3c67522e2f1b80ee0", func := "hemiola/hemiolalaw14.SpannerCovers", spec := "spannerCovers", unfollowed := true, recurses := true, named := ["hemiola/spanner.names"], apart := false, laid := [("hemiola/spanner.names", laid_hemiola_spanner_names)] }
def SpannerCoversSaid : Prop := spannerCoversRow.holds Tryd.pinned (OpenSpec.ofChange spannerCoversSpec)

/-- ITS FALSE NEIGHBOUR: 'it returns false'. Refute it at one input. -/
def spannerCoversWrong : ChangeSpec := { name := "spannerCovers", fn := fun _ => fun
  | [d1, d2, d3] => { results := [.lit (.bool false)], args := [d1, d2, d3] }
  | _ => none }
def SpannerCoversWrongFalsely : Prop := spannerCoversRow.holds Tryd.pinned (OpenSpec.ofChange spannerCoversWrong)

/-- 'hemiolalaw14.SpannerDivides': WHATEVER THE INPUT: true; the input reads as it did. -/
def spannerDividesSpec : ChangeSpec := { name := "spannerDivides", fn := fun _ => fun
  | [d1, d2] => { results := [.lit (.bool true)], args := [d1, d2] }
  | _ => none }
def spannerDividesRow : OpenClaim := { program := "ytgepjpbdfjcaaaadoor", sum := "4d354db85c5e9bcfda22dcebfe4a395f8d903310ad0c91b3c67522e2f1b80ee0", func := "hemiola/hemiolalaw14.SpannerDivides", spec := "spannerDivides", unfollowed := true, recurses := true, named := ["hemiola/spanner.names"], apart := false, laid := [("hemiola/spanner.names", laid_hemiola_spanner_names)] }
def SpannerDividesSaid : Prop := spannerDividesRow.holds Tryd.pinned (OpenSpec.ofChange spannerDividesSpec)

/-- ITS FALSE NEIGHBOUR: 'it returns false'. Refute it at one input. -/
def spannerDividesWrong : ChangeSpec := { name := "spannerDivides", fn := fun _ => fun
  | [d1, d2] => { results := [.lit (.bool false)], args := [d1, d2] }
  | _ => none }
def SpannerDividesWrongFalsely : Prop := spannerDividesRow.holds Tryd.pinned (OpenSpec.ofChange spannerDividesWrong)

/-- 'hemiolalaw14.SpannerNames': WHATEVER THE INPUT: true; the input reads as it did. -/
def spannerNamesSpec : ChangeSpec := { name := "spannerNames", fn := fun _ => fun
  | [d1, d2] => { results := [.lit (.bool true)], args := [d1, d2] }
  | _ => none }
def spannerNamesRow : OpenClaim := { program := "ytgepjpbdfjcaaaadoor", sum := "4d354db85c5e9bcfda22dcebfe4a395f8d903310ad0c91b3c67522e2f1b80ee0", func := "hemiola/hemiolalaw14.SpannerNames", spec := "spannerNames", unfollowed := true, recurses := true, named := ["hemiola/spanner.names"], apart := false, laid := [("hemiola/spanner.names", laid_hemiola_spanner_names)] }
def SpannerNamesSaid : Prop := spannerNamesRow.holds Tryd.pinned (OpenSpec.ofChange spannerNamesSpec)

/-- ITS FALSE NEIGHBOUR: 'it returns false'. Refute it at one input. -/
def spannerNamesWrong : ChangeSpec := { name := "spannerNames", fn := fun _ => fun
  | [d1, d2] => { results := [.lit (.bool false)], args := [d1, d2] }
  | _ => none }
def SpannerNamesWrongFalsely : Prop := spannerNamesRow.holds Tryd.pinned (OpenSpec.ofChange spannerNamesWrong)

/-- 'hemiolalaw14.SpannerLimit': WHATEVER THE INPUT: true; the input reads as it did. -/
def spannerLimitSpec : ChangeSpec := { name := "spannerLimit", fn := fun _ => fun
  | [d1, d2] => { results := [.lit (.bool true)], args := [d1, d2] }
  | _ => none }
def spannerLimitRow : OpenClaim := { program := "ytgepjpbdfjcaaaadoor", sum := "4d354db85c5e9bcfda22dcebfe4a395f8d903310ad0c91b3c67522e2f1b80ee0", func := "hemiola/hemiolalaw14.SpannerLimit", spec := "spannerLimit", unfollowed := true, recurses := true, named := ["hemiola/spanner.names"], apart := false, laid := [("hemiola/spanner.names", laid_hemiola_spanner_names)] }
def SpannerLimitSaid : Prop := spannerLimitRow.holds Tryd.pinned (OpenSpec.ofChange spannerLimitSpec)

/-- ITS FALSE NEIGHBOUR: 'it returns false'. Refute it at one input. -/
def spannerLimitWrong : ChangeSpec := { name := "spannerLimit", fn := fun _ => fun
  | [d1, d2] => { results := [.lit (.bool false)], args := [d1, d2] }
  | _ => none }
def SpannerLimitWrongFalsely : Prop := spannerLimitRow.holds Tryd.pinned (OpenSpec.ofChange spannerLimitWrong)

/- THE SECOND FORM. 'bulk': how many values and letters a reading holds, each counted each time it is reached (what is shared counts as often as it is met; a slice's spare places count too). A statement '..UptoSaid' is the law's where the arguments, and the package variables that the reading takes, are together of bulk at most 1048576: NARROWER than '..Said'. Prove '..Said' where nothing that the law and all that it calls make is longer than what came in: it says more and counts as full. Else prove '..UptoSaid'. A law counts once. -/
mutual
def uptoBulk {H : Type} : DataW H → Nat
  | .lit (.string bytes) => bytes.length + 1
  | .lit _ => 1
  | .nil => 1
  | .ptr d => uptoBulk d + 1
  | .slice elems spare => uptoBulkAll elems + uptoBulkAll spare + 1
  | .agg parts => uptoBulkAll parts + 1
  | .iface _ d => uptoBulk d + 1
  | .map entries => uptoBulkEntries entries + 1
  | .held _ => 1
def uptoBulkAll {H : Type} : List (DataW H) → Nat
  | [] => 0
  | d :: r => uptoBulk d + uptoBulkAll r
def uptoBulkEntries {H : Type} : List (Lit × DataW H) → Nat
  | [] => 0
  | x :: r => uptoBulkEntry x + uptoBulkEntries r
def uptoBulkEntry {H : Type} : Lit × DataW H → Nat
  | (.string bytes, d) => bytes.length + uptoBulk d + 1
  | (_, d) => uptoBulk d + 1
 end
def uptoSmall : (H : Type) → List (DataW H) → Bool := fun _ ds => decide (uptoBulkAll ds ≤ 1048576)
def OpenSpec.upto (s : _root_.Go.ChangeSpec) : _root_.Go.OpenSpec := { _root_.Go.OpenSpec.ofChange s with cond := some uptoSmall }

/-- 'hemiolalaw14.SpannerProper', WHERE WHAT IT READS IS OF BULK AT MOST 1048576: true; the input reads as it did. -/
def spannerProperUptoRow : OpenClaim := { program := "ytgepjpbdfjcaaaadoor", sum := "4d354db85c5e9bcfda22dcebfe4a395f8d903310ad0c91b3c67522e2f1b80ee0", func := "hemiola/hemiolalaw14.SpannerProper", spec := "spannerProper", unfollowed := true, recurses := true, named := ["hemiola/spanner.names"], apart := false, laid := [("hemiola/spanner.names", laid_hemiola_spanner_names)], narrowed := true }
def SpannerProperUptoSaid : Prop := spannerProperUptoRow.holds Tryd.pinned (OpenSpec.upto spannerProperSpec)

/-- 'hemiolalaw14.SpannerConflicts', WHERE WHAT IT READS IS OF BULK AT MOST 1048576: true; the input reads as it did. -/
def spannerConflictsUptoRow : OpenClaim := { program := "ytgepjpbdfjcaaaadoor", sum := "4d354db85c5e9bcfda22dcebfe4a395f8d903310ad0c91b3c67522e2f1b80ee0", func := "hemiola/hemiolalaw14.SpannerConflicts", spec := "spannerConflicts", unfollowed := true, recurses := true, named := ["hemiola/spanner.names"], apart := false, laid := [("hemiola/spanner.names", laid_hemiola_spanner_names)], narrowed := true }
def SpannerConflictsUptoSaid : Prop := spannerConflictsUptoRow.holds Tryd.pinned (OpenSpec.upto spannerConflictsSpec)

/-- 'hemiolalaw14.SpannerChecks', WHERE WHAT IT READS IS OF BULK AT MOST 1048576: true; the input reads as it did. -/
def spannerChecksUptoRow : OpenClaim := { program := "ytgepjpbdfjcaaaadoor", sum := "4d354db85c5e9bcfda22dcebfe4a395f8d903310ad0c91b3c67522e2f1b80ee0", func := "hemiola/hemiolalaw14.SpannerChecks", spec := "spannerChecks", unfollowed := true, recurses := true, named := ["hemiola/spanner.names"], apart := false, laid := [("hemiola/spanner.names", laid_hemiola_spanner_names)], narrowed := true }
def SpannerChecksUptoSaid : Prop := spannerChecksUptoRow.holds Tryd.pinned (OpenSpec.upto spannerChecksSpec)

/-- 'hemiolalaw14.SpannerOrders', WHERE WHAT IT READS IS OF BULK AT MOST 1048576: true; the input reads as it did. -/
def spannerOrdersUptoRow : OpenClaim := { program := "ytgepjpbdfjcaaaadoor", sum := "4d354db85c5e9bcfda22dcebfe4a395f8d903310ad0c91b3c67522e2f1b80ee0", func := "hemiola/hemiolalaw14.SpannerOrders", spec := "spannerOrders", unfollowed := true, recurses := true, named := ["hemiola/spanner.names"], apart := false, laid := [("hemiola/spanner.names", laid_hemiola_spanner_names)], narrowed := true }
def SpannerOrdersUptoSaid : Prop := spannerOrdersUptoRow.holds Tryd.pinned (OpenSpec.upto spannerOrdersSpec)

/-- 'hemiolalaw14.SpannerNests', WHERE WHAT IT READS IS OF BULK AT MOST 1048576: true; the input reads as it did. -/
def spannerNestsUptoRow : OpenClaim := { program := "ytgepjpbdfjcaaaadoor", sum := "4d354db85c5e9bcfda22dcebfe4a395f8d903310ad0c91b3c67522e2f1b80ee0", func := "hemiola/hemiolalaw14.SpannerNests", spec := "spannerNests", unfollowed := true, recurses := true, named := ["hemiola/spanner.names"], apart := false, laid := [("hemiola/spanner.names", laid_hemiola_spanner_names)], narrowed := true }
def SpannerNestsUptoSaid : Prop := spannerNestsUptoRow.holds Tryd.pinned (OpenSpec.upto spannerNestsSpec)

/-- 'hemiolalaw14.SpannerLevels', WHERE WHAT IT READS IS OF BULK AT MOST 1048576: true; the input reads as it did. -/
def spannerLevelsUptoRow : OpenClaim := { program := "ytgepjpbdfjcaaaadoor", sum := "4d354db85c5e9bcfda22dcebfe4a395f8d903310ad0c91b3c67522e2f1b80ee0", func := "hemiola/hemiolalaw14.SpannerLevels", spec := "spannerLevels", unfollowed := true, recurses := true, named := ["hemiola/spanner.names"], apart := false, laid := [("hemiola/spanner.names", laid_hemiola_spanner_names)], narrowed := true }
def SpannerLevelsUptoSaid : Prop := spannerLevelsUptoRow.holds Tryd.pinned (OpenSpec.upto spannerLevelsSpec)

/-- 'hemiolalaw14.SpannerCovers', WHERE WHAT IT READS IS OF BULK AT MOST 1048576: true; the input reads as it did. -/
def spannerCoversUptoRow : OpenClaim := { program := "ytgepjpbdfjcaaaadoor", sum := "4d354db85c5e9bcfda22dcebfe4a395f8d903310ad0c91b3c67522e2f1b80ee0", func := "hemiola/hemiolalaw14.SpannerCovers", spec := "spannerCovers", unfollowed := true, recurses := true, named := ["hemiola/spanner.names"], apart := false, laid := [("hemiola/spanner.names", laid_hemiola_spanner_names)], narrowed := true }
def SpannerCoversUptoSaid : Prop := spannerCoversUptoRow.holds Tryd.pinned (OpenSpec.upto spannerCoversSpec)

/-- 'hemiolalaw14.SpannerDivides', WHERE WHAT IT READS IS OF BULK AT MOST 1048576: true; the input reads as it did. -/
def spannerDividesUptoRow : OpenClaim := { program := "ytgepjpbdfjcaaaadoor", sum := "4d354db85c5e9bcfda22dcebfe4a395f8d903310ad0c91b3c67522e2f1b80ee0", func := "hemiola/hemiolalaw14.SpannerDivides", spec := "spannerDivides", unfollowed := true, recurses := true, named := ["hemiola/spanner.names"], apart := false, laid := [("hemiola/spanner.names", laid_hemiola_spanner_names)], narrowed := true }
def SpannerDividesUptoSaid : Prop := spannerDividesUptoRow.holds Tryd.pinned (OpenSpec.upto spannerDividesSpec)

/-- 'hemiolalaw14.SpannerNames', WHERE WHAT IT READS IS OF BULK AT MOST 1048576: true; the input reads as it did. -/
def spannerNamesUptoRow : OpenClaim := { program := "ytgepjpbdfjcaaaadoor", sum := "4d354db85c5e9bcfda22dcebfe4a395f8d903310ad0c91b3c67522e2f1b80ee0", func := "hemiola/hemiolalaw14.SpannerNames", spec := "spannerNames", unfollowed := true, recurses := true, named := ["hemiola/spanner.names"], apart := false, laid := [("hemiola/spanner.names", laid_hemiola_spanner_names)], narrowed := true }
def SpannerNamesUptoSaid : Prop := spannerNamesUptoRow.holds Tryd.pinned (OpenSpec.upto spannerNamesSpec)

/-- 'hemiolalaw14.SpannerLimit', WHERE WHAT IT READS IS OF BULK AT MOST 1048576: true; the input reads as it did. -/
def spannerLimitUptoRow : OpenClaim := { program := "ytgepjpbdfjcaaaadoor", sum := "4d354db85c5e9bcfda22dcebfe4a395f8d903310ad0c91b3c67522e2f1b80ee0", func := "hemiola/hemiolalaw14.SpannerLimit", spec := "spannerLimit", unfollowed := true, recurses := true, named := ["hemiola/spanner.names"], apart := false, laid := [("hemiola/spanner.names", laid_hemiola_spanner_names)], narrowed := true }
def SpannerLimitUptoSaid : Prop := spannerLimitUptoRow.holds Tryd.pinned (OpenSpec.upto spannerLimitSpec)

end Rows
end Go.Proofs.YtgepjpbdfjcaaaaDoor
