/-
  NARROWER THAN 'FOR EVERY INPUT', by the rows' own cells (each row's printed sentence says how): ClefPositions: laid · ClefInverts: laid · ClefSteps: laid · ClefLedgers: laid · ClefMirrors: laid · ClefSignatures: laid · ClefShapes: laid · ClefBest: laid · ClefNames: laid.
  DERIVED. THE GIVEN ROWS OF THIS SEAT. 9 by the template 'for every input the law returns true; each argument reads behind the call as it read before'; 0 by the template 'total and deterministic' (their statements: YtnakfeamimeioaaDoorTotals.lean).
  GIVEN WITH THE SEED: the statements are not yours to turn. If you find one false, say at which input.
  Laid BY PROGRAM, IN A SANDBOX (cutbox-rows.mjs): the forced cells as the released guide's own fill.sh prints them over the translation 7c22f9d9bfaeed35… (all of the seat's roots in one cut). By AI agents, Wed Nov 11 2026. No macro, syntax, notation, axiom, sorry.
-/
import Derived.Test.YtnakfeamimeioaaDoorChecked
import GoSem.Claim
import GoSem.ClaimJoined
import GoSem.ClaimMapViews
import Derived.JoinedTies
import Derived.KernelRfl
namespace Go.Proofs.YtnakfeamimeioaaDoor
/- THE CELL 'sum', in the pinned program and in every row, IS THE sha256 OF THE DUMP (.gsa) THAT YtnakfeamimeioaaDoorProg.lean LOADS. Nothing in Lean hashes anything: it is a label: what it is worth is what the hold of that sum in a sandbox is worth. -/
noncomputable def Tryd.pinned : Pinned := { name := "ytnakfeamimeioaadoor", sum := "7c22f9d9bfaeed350dfa7fed88c67e359ea860526be07ad6a1b5fed8a3e7f7be", checked := Tryd.checked }
namespace Rows
def none {H : Type} : Left H := { results := [], args := [] }

/- WHAT THE LISTED PACKAGE-LEVEL VARIABLES READ AS WHEN THE CALL BEGINS. Each datum BY PROGRAM (the guide's laid-datum.mjs) off the statement by which the dump's own 'gosem.cut.vars' lays the variable. In a bare row this is a premise. The card (YtnakfeamimeioaaDoorCards.lean) ties it to the program's text. -/
def laid_hemiola_pitch_heights {H : Type} : DataW H := .agg [.lit (.int .i64 0), .lit (.int .i64 2), .lit (.int .i64 4), .lit (.int .i64 5), .lit (.int .i64 7), .lit (.int .i64 9), .lit (.int .i64 11)]
def laid_hemiola_clef_designs {H : Type} : DataW H := .agg [.agg [.lit (.string [116, 114, 101, 98, 108, 101]), .lit (.int .u8 71), .lit (.int .i64 (-2)), .lit (.int .i64 0), .lit (.int .i64 34), .lit (.int .i64 (-1)), .lit (.int .i64 (-3))], .agg [.lit (.string [98, 97, 115, 115]), .lit (.int .u8 70), .lit (.int .i64 2), .lit (.int .i64 0), .lit (.int .i64 22), .lit (.int .i64 (-3)), .lit (.int .i64 (-5))], .agg [.lit (.string [97, 108, 116, 111]), .lit (.int .u8 67), .lit (.int .i64 0), .lit (.int .i64 0), .lit (.int .i64 28), .lit (.int .i64 (-2)), .lit (.int .i64 (-4))], .agg [.lit (.string [116, 101, 110, 111, 114]), .lit (.int .u8 67), .lit (.int .i64 2), .lit (.int .i64 0), .lit (.int .i64 26), .lit (.int .i64 (-2)), .lit (.int .i64 (-2))], .agg [.lit (.string [115, 111, 112, 114, 97, 110, 111]), .lit (.int .u8 67), .lit (.int .i64 (-4)), .lit (.int .i64 0), .lit (.int .i64 32), .lit (.int .i64 (-2)), .lit (.int .i64 (-3))], .agg [.lit (.string [109, 101, 122, 122, 111, 115, 111, 112, 114, 97, 110, 111]), .lit (.int .u8 67), .lit (.int .i64 (-2)), .lit (.int .i64 0), .lit (.int .i64 30), .lit (.int .i64 (-2)), .lit (.int .i64 (-3))], .agg [.lit (.string [98, 97, 114, 105, 116, 111, 110, 101]), .lit (.int .u8 70), .lit (.int .i64 0), .lit (.int .i64 0), .lit (.int .i64 24), .lit (.int .i64 (-2)), .lit (.int .i64 (-3))], .agg [.lit (.string [116, 114, 101, 98, 108, 101, 56]), .lit (.int .u8 71), .lit (.int .i64 (-2)), .lit (.int .i64 (-1)), .lit (.int .i64 27), .lit (.int .i64 (-1)), .lit (.int .i64 (-3))], .agg [.lit (.string [98, 97, 115, 115, 56]), .lit (.int .u8 70), .lit (.int .i64 2), .lit (.int .i64 (-1)), .lit (.int .i64 15), .lit (.int .i64 (-3)), .lit (.int .i64 (-5))]]
def laid_hemiola_clef_order {H : Type} : DataW H := .agg [.lit (.int .i64 3), .lit (.int .i64 0), .lit (.int .i64 4), .lit (.int .i64 1), .lit (.int .i64 5), .lit (.int .i64 2), .lit (.int .i64 6)]

/-- 'hemiolalaw08.ClefPositions': WHATEVER THE INPUT: true; the input reads as it did. -/
def clefPositionsSpec : ChangeSpec := { name := "clefPositions", fn := fun _ => fun
  | [d1, d2] => { results := [.lit (.bool true)], args := [d1, d2] }
  | _ => none }
def clefPositionsRow : OpenClaim := { program := "ytnakfeamimeioaadoor", sum := "7c22f9d9bfaeed350dfa7fed88c67e359ea860526be07ad6a1b5fed8a3e7f7be", func := "hemiola/hemiolalaw08.ClefPositions", spec := "clefPositions", named := ["hemiola/clef.designs", "hemiola/pitch.heights", "hemiola/clef.order"], apart := false, laid := [("hemiola/pitch.heights", laid_hemiola_pitch_heights), ("hemiola/clef.designs", laid_hemiola_clef_designs), ("hemiola/clef.order", laid_hemiola_clef_order)] }
def ClefPositionsSaid : Prop := clefPositionsRow.holds Tryd.pinned (OpenSpec.ofChange clefPositionsSpec)

/-- ITS FALSE NEIGHBOUR: 'it returns false'. Refute it at one input. -/
def clefPositionsWrong : ChangeSpec := { name := "clefPositions", fn := fun _ => fun
  | [d1, d2] => { results := [.lit (.bool false)], args := [d1, d2] }
  | _ => none }
def ClefPositionsWrongFalsely : Prop := clefPositionsRow.holds Tryd.pinned (OpenSpec.ofChange clefPositionsWrong)

/-- 'hemiolalaw08.ClefInverts': WHATEVER THE INPUT: true; the input reads as it did. -/
def clefInvertsSpec : ChangeSpec := { name := "clefInverts", fn := fun _ => fun
  | [d1, d2] => { results := [.lit (.bool true)], args := [d1, d2] }
  | _ => none }
def clefInvertsRow : OpenClaim := { program := "ytnakfeamimeioaadoor", sum := "7c22f9d9bfaeed350dfa7fed88c67e359ea860526be07ad6a1b5fed8a3e7f7be", func := "hemiola/hemiolalaw08.ClefInverts", spec := "clefInverts", named := ["hemiola/clef.designs", "hemiola/pitch.heights", "hemiola/clef.order"], apart := false, laid := [("hemiola/pitch.heights", laid_hemiola_pitch_heights), ("hemiola/clef.designs", laid_hemiola_clef_designs), ("hemiola/clef.order", laid_hemiola_clef_order)] }
def ClefInvertsSaid : Prop := clefInvertsRow.holds Tryd.pinned (OpenSpec.ofChange clefInvertsSpec)

/-- ITS FALSE NEIGHBOUR: 'it returns false'. Refute it at one input. -/
def clefInvertsWrong : ChangeSpec := { name := "clefInverts", fn := fun _ => fun
  | [d1, d2] => { results := [.lit (.bool false)], args := [d1, d2] }
  | _ => none }
def ClefInvertsWrongFalsely : Prop := clefInvertsRow.holds Tryd.pinned (OpenSpec.ofChange clefInvertsWrong)

/-- 'hemiolalaw08.ClefSteps': WHATEVER THE INPUT: true; the input reads as it did. -/
def clefStepsSpec : ChangeSpec := { name := "clefSteps", fn := fun _ => fun
  | [d1, d2, d3] => { results := [.lit (.bool true)], args := [d1, d2, d3] }
  | _ => none }
def clefStepsRow : OpenClaim := { program := "ytnakfeamimeioaadoor", sum := "7c22f9d9bfaeed350dfa7fed88c67e359ea860526be07ad6a1b5fed8a3e7f7be", func := "hemiola/hemiolalaw08.ClefSteps", spec := "clefSteps", named := ["hemiola/clef.designs", "hemiola/pitch.heights", "hemiola/clef.order"], apart := false, laid := [("hemiola/pitch.heights", laid_hemiola_pitch_heights), ("hemiola/clef.designs", laid_hemiola_clef_designs), ("hemiola/clef.order", laid_hemiola_clef_order)] }
def ClefStepsSaid : Prop := clefStepsRow.holds Tryd.pinned (OpenSpec.ofChange clefStepsSpec)

/-- ITS FALSE NEIGHBOUR: 'it returns false'. Refute it at one input. -/
def clefStepsWrong : ChangeSpec := { name := "clefSteps", fn := fun _ => fun
  | [d1, d2, d3] => { results := [.lit (.bool false)], args := [d1, d2, d3] }
  | _ => none }
def ClefStepsWrongFalsely : Prop := clefStepsRow.holds Tryd.pinned (OpenSpec.ofChange clefStepsWrong)

/-- 'hemiolalaw08.ClefLedgers': WHATEVER THE INPUT: true; the input reads as it did. -/
def clefLedgersSpec : ChangeSpec := { name := "clefLedgers", fn := fun _ => fun
  | [d] => { results := [.lit (.bool true)], args := [d] }
  | _ => none }
def clefLedgersRow : OpenClaim := { program := "ytnakfeamimeioaadoor", sum := "7c22f9d9bfaeed350dfa7fed88c67e359ea860526be07ad6a1b5fed8a3e7f7be", func := "hemiola/hemiolalaw08.ClefLedgers", spec := "clefLedgers", named := ["hemiola/clef.designs", "hemiola/pitch.heights", "hemiola/clef.order"], apart := false, laid := [("hemiola/pitch.heights", laid_hemiola_pitch_heights), ("hemiola/clef.designs", laid_hemiola_clef_designs), ("hemiola/clef.order", laid_hemiola_clef_order)] }
def ClefLedgersSaid : Prop := clefLedgersRow.holds Tryd.pinned (OpenSpec.ofChange clefLedgersSpec)

/-- ITS FALSE NEIGHBOUR: 'it returns false'. Refute it at one input. -/
def clefLedgersWrong : ChangeSpec := { name := "clefLedgers", fn := fun _ => fun
  | [d] => { results := [.lit (.bool false)], args := [d] }
  | _ => none }
def ClefLedgersWrongFalsely : Prop := clefLedgersRow.holds Tryd.pinned (OpenSpec.ofChange clefLedgersWrong)

/-- 'hemiolalaw08.ClefMirrors': WHATEVER THE INPUT: true; the input reads as it did. -/
def clefMirrorsSpec : ChangeSpec := { name := "clefMirrors", fn := fun _ => fun
  | [d] => { results := [.lit (.bool true)], args := [d] }
  | _ => none }
def clefMirrorsRow : OpenClaim := { program := "ytnakfeamimeioaadoor", sum := "7c22f9d9bfaeed350dfa7fed88c67e359ea860526be07ad6a1b5fed8a3e7f7be", func := "hemiola/hemiolalaw08.ClefMirrors", spec := "clefMirrors", named := ["hemiola/clef.designs", "hemiola/pitch.heights", "hemiola/clef.order"], apart := false, laid := [("hemiola/pitch.heights", laid_hemiola_pitch_heights), ("hemiola/clef.designs", laid_hemiola_clef_designs), ("hemiola/clef.order", laid_hemiola_clef_order)] }
def ClefMirrorsSaid : Prop := clefMirrorsRow.holds Tryd.pinned (OpenSpec.ofChange clefMirrorsSpec)

/-- ITS FALSE NEIGHBOUR: 'it returns false'. Refute it at one input. -/
def clefMirrorsWrong : ChangeSpec := { name := "clefMirrors", fn := fun _ => fun
  | [d] => { results := [.lit (.bool false)], args := [d] }
  | _ => none }
def ClefMirrorsWrongFalsely : Prop := clefMirrorsRow.holds Tryd.pinned (OpenSpec.ofChange clefMirrorsWrong)

/-- 'hemiolalaw08.ClefSignatures': WHATEVER THE INPUT: true; the input reads as it did. -/
def clefSignaturesSpec : ChangeSpec := { name := "clefSignatures", fn := fun _ => fun
  | [d1, d2] => { results := [.lit (.bool true)], args := [d1, d2] }
  | _ => none }
def clefSignaturesRow : OpenClaim := { program := "ytnakfeamimeioaadoor", sum := "7c22f9d9bfaeed350dfa7fed88c67e359ea860526be07ad6a1b5fed8a3e7f7be", func := "hemiola/hemiolalaw08.ClefSignatures", spec := "clefSignatures", named := ["hemiola/clef.designs", "hemiola/pitch.heights", "hemiola/clef.order"], apart := false, laid := [("hemiola/pitch.heights", laid_hemiola_pitch_heights), ("hemiola/clef.designs", laid_hemiola_clef_designs), ("hemiola/clef.order", laid_hemiola_clef_order)] }
def ClefSignaturesSaid : Prop := clefSignaturesRow.holds Tryd.pinned (OpenSpec.ofChange clefSignaturesSpec)

/-- ITS FALSE NEIGHBOUR: 'it returns false'. Refute it at one input. -/
def clefSignaturesWrong : ChangeSpec := { name := "clefSignatures", fn := fun _ => fun
  | [d1, d2] => { results := [.lit (.bool false)], args := [d1, d2] }
  | _ => none }
def ClefSignaturesWrongFalsely : Prop := clefSignaturesRow.holds Tryd.pinned (OpenSpec.ofChange clefSignaturesWrong)

/-- 'hemiolalaw08.ClefShapes': WHATEVER THE INPUT: true; the input reads as it did. -/
def clefShapesSpec : ChangeSpec := { name := "clefShapes", fn := fun _ => fun
  | [d1, d2] => { results := [.lit (.bool true)], args := [d1, d2] }
  | _ => none }
def clefShapesRow : OpenClaim := { program := "ytnakfeamimeioaadoor", sum := "7c22f9d9bfaeed350dfa7fed88c67e359ea860526be07ad6a1b5fed8a3e7f7be", func := "hemiola/hemiolalaw08.ClefShapes", spec := "clefShapes", named := ["hemiola/clef.order", "hemiola/clef.designs", "hemiola/pitch.heights"], apart := false, laid := [("hemiola/pitch.heights", laid_hemiola_pitch_heights), ("hemiola/clef.designs", laid_hemiola_clef_designs), ("hemiola/clef.order", laid_hemiola_clef_order)] }
def ClefShapesSaid : Prop := clefShapesRow.holds Tryd.pinned (OpenSpec.ofChange clefShapesSpec)

/-- ITS FALSE NEIGHBOUR: 'it returns false'. Refute it at one input. -/
def clefShapesWrong : ChangeSpec := { name := "clefShapes", fn := fun _ => fun
  | [d1, d2] => { results := [.lit (.bool false)], args := [d1, d2] }
  | _ => none }
def ClefShapesWrongFalsely : Prop := clefShapesRow.holds Tryd.pinned (OpenSpec.ofChange clefShapesWrong)

/-- 'hemiolalaw08.ClefBest': WHATEVER THE INPUT: true; the input reads as it did. -/
def clefBestSpec : ChangeSpec := { name := "clefBest", fn := fun _ => fun
  | [d1, d2] => { results := [.lit (.bool true)], args := [d1, d2] }
  | _ => none }
def clefBestRow : OpenClaim := { program := "ytnakfeamimeioaadoor", sum := "7c22f9d9bfaeed350dfa7fed88c67e359ea860526be07ad6a1b5fed8a3e7f7be", func := "hemiola/hemiolalaw08.ClefBest", spec := "clefBest", named := ["hemiola/pitch.heights", "hemiola/clef.designs", "hemiola/clef.order"], apart := false, laid := [("hemiola/pitch.heights", laid_hemiola_pitch_heights), ("hemiola/clef.designs", laid_hemiola_clef_designs), ("hemiola/clef.order", laid_hemiola_clef_order)] }
def ClefBestSaid : Prop := clefBestRow.holds Tryd.pinned (OpenSpec.ofChange clefBestSpec)

/-- ITS FALSE NEIGHBOUR: 'it returns false'. Refute it at one input. -/
def clefBestWrong : ChangeSpec := { name := "clefBest", fn := fun _ => fun
  | [d1, d2] => { results := [.lit (.bool false)], args := [d1, d2] }
  | _ => none }
def ClefBestWrongFalsely : Prop := clefBestRow.holds Tryd.pinned (OpenSpec.ofChange clefBestWrong)

/-- 'hemiolalaw08.ClefNames': WHATEVER THE INPUT: true; the input reads as it did. -/
def clefNamesSpec : ChangeSpec := { name := "clefNames", fn := fun _ => fun
  | [d1, d2] => { results := [.lit (.bool true)], args := [d1, d2] }
  | _ => none }
def clefNamesRow : OpenClaim := { program := "ytnakfeamimeioaadoor", sum := "7c22f9d9bfaeed350dfa7fed88c67e359ea860526be07ad6a1b5fed8a3e7f7be", func := "hemiola/hemiolalaw08.ClefNames", spec := "clefNames", named := ["hemiola/clef.designs", "hemiola/pitch.heights", "hemiola/clef.order"], apart := false, laid := [("hemiola/pitch.heights", laid_hemiola_pitch_heights), ("hemiola/clef.designs", laid_hemiola_clef_designs), ("hemiola/clef.order", laid_hemiola_clef_order)] }
def ClefNamesSaid : Prop := clefNamesRow.holds Tryd.pinned (OpenSpec.ofChange clefNamesSpec)

/-- ITS FALSE NEIGHBOUR: 'it returns false'. Refute it at one input. -/
def clefNamesWrong : ChangeSpec := { name := "clefNames", fn := fun _ => fun
  | [d1, d2] => { results := [.lit (.bool false)], args := [d1, d2] }
  | _ => none }
def ClefNamesWrongFalsely : Prop := clefNamesRow.holds Tryd.pinned (OpenSpec.ofChange clefNamesWrong)

/- THE SECOND FORM. 'bulk': how many values and letters a reading holds, each counted each time it is reached (what is shared counts as often as it is met; a slice's spare places count too). A statement '..UptoSaid' is the law's where the arguments, and the package variables that the reading takes, are together of bulk at most 1048576: NARROWER than '..Said'. Prove '..Said' where nothing that the law and all that it calls make is longer than what came in: it says more and counts as full. Else prove '..UptoSaid'. A law counts once. -/
mutual
def uptoBulk {H : Type} : DataW H → Nat
  | .lit (.string bytes) => bytes.length + 1
  | .lit _ => 1
  | .nil => 1
  | .ptr d => uptoBulk d + 1
  | .slice elems spare => uptoBulkAll elems + uptoBulkAll spare + 1
  | .agg parts => uptoBulkAll parts + 1
  | .iface _ d => uptoBulk d + 1
  | .map entries => uptoBulkEntries entries + 1
  | .held _ => 1
def uptoBulkAll {H : Type} : List (DataW H) → Nat
  | [] => 0
  | d :: r => uptoBulk d + uptoBulkAll r
def uptoBulkEntries {H : Type} : List (Lit × DataW H) → Nat
  | [] => 0
  | x :: r => uptoBulkEntry x + uptoBulkEntries r
def uptoBulkEntry {H : Type} : Lit × DataW H → Nat
  | (.string bytes, d) => bytes.length + uptoBulk d + 1
  | (_, d) => uptoBulk d + 1
 end
def uptoSmall : (H : Type) → List (DataW H) → Bool := fun _ ds => decide (uptoBulkAll ds ≤ 1048576)
def OpenSpec.upto (s : _root_.Go.ChangeSpec) : _root_.Go.OpenSpec := { _root_.Go.OpenSpec.ofChange s with cond := some uptoSmall }

/-- 'hemiolalaw08.ClefPositions', WHERE WHAT IT READS IS OF BULK AT MOST 1048576: true; the input reads as it did. -/
def clefPositionsUptoRow : OpenClaim := { program := "ytnakfeamimeioaadoor", sum := "7c22f9d9bfaeed350dfa7fed88c67e359ea860526be07ad6a1b5fed8a3e7f7be", func := "hemiola/hemiolalaw08.ClefPositions", spec := "clefPositions", named := ["hemiola/clef.designs", "hemiola/pitch.heights", "hemiola/clef.order"], apart := false, laid := [("hemiola/pitch.heights", laid_hemiola_pitch_heights), ("hemiola/clef.designs", laid_hemiola_clef_designs), ("hemiola/clef.order", laid_hemiola_clef_order)], narrowed := true }
def ClefPositionsUptoSaid : Prop := clefPositionsUptoRow.holds Tryd.pinned (OpenSpec.upto clefPositionsSpec)

/-- 'hemiolalaw08.ClefInverts', WHERE WHAT IT READS IS OF BULK AT MOST 1048576: true; the input reads as it did. -/
def clefInvertsUptoRow : OpenClaim := { program := "ytnakfeamimeioaadoor", sum := "7c22f9d9bfaeed350dfa7fed88c67e359ea860526be07ad6a1b5fed8a3e7f7be", func := "hemiola/hemiolalaw08.ClefInverts", spec := "clefInverts", named := ["hemiola/clef.designs", "hemiola/pitch.heights", "hemiola/clef.order"], apart := false, laid := [("hemiola/pitch.heights", laid_hemiola_pitch_heights), ("hemiola/clef.designs", laid_hemiola_clef_designs), ("hemiola/clef.order", laid_hemiola_clef_order)], narrowed := true }
def ClefInvertsUptoSaid : Prop := clefInvertsUptoRow.holds Tryd.pinned (OpenSpec.upto clefInvertsSpec)

/-- 'hemiolalaw08.ClefSteps', WHERE WHAT IT READS IS OF BULK AT MOST 1048576: true; the input reads as it did. -/
def clefStepsUptoRow : OpenClaim := { program := "ytnakfeamimeioaadoor", sum := "7c22f9d9bfaeed350dfa7fed88c67e359ea860526be07ad6a1b5fed8a3e7f7be", func := "hemiola/hemiolalaw08.ClefSteps", spec := "clefSteps", named := ["hemiola/clef.designs", "hemiola/pitch.heights", "hemiola/clef.order"], apart := false, laid := [("hemiola/pitch.heights", laid_hemiola_pitch_heights), ("hemiola/clef.designs", laid_hemiola_clef_designs), ("hemiola/clef.order", laid_hemiola_clef_order)], narrowed := true }
def ClefStepsUptoSaid : Prop := clefStepsUptoRow.holds Tryd.pinned (OpenSpec.upto clefStepsSpec)

/-- 'hemiolalaw08.ClefLedgers', WHERE WHAT IT READS IS OF BULK AT MOST 1048576: true; the input reads as it did. -/
def clefLedgersUptoRow : OpenClaim := { program := "ytnakfeamimeioaadoor", sum := "7c22f9d9bfaeed350dfa7fed88c67e359ea860526be07ad6a1b5fed8a3e7f7be", func := "hemiola/hemiolalaw08.ClefLedgers", spec := "clefLedgers", named := ["hemiola/clef.designs", "hemiola/pitch.heights", "hemiola/clef.order"], apart := false, laid := [("hemiola/pitch.heights", laid_hemiola_pitch_heights), ("hemiola/clef.designs", laid_hemiola_clef_designs), ("hemiola/clef.order", laid_hemiola_clef_order)], narrowed := true }
def ClefLedgersUptoSaid : Prop := clefLedgersUptoRow.holds Tryd.pinned (OpenSpec.upto clefLedgersSpec)

/-- 'hemiolalaw08.ClefMirrors', WHERE WHAT IT READS IS OF BULK AT MOST 1048576: true; the input reads as it did. -/
def clefMirrorsUptoRow : OpenClaim := { program := "ytnakfeamimeioaadoor", sum := "7c22f9d9bfaeed350dfa7fed88c67e359ea860526be07ad6a1b5fed8a3e7f7be", func := "hemiola/hemiolalaw08.ClefMirrors", spec := "clefMirrors", named := ["hemiola/clef.designs", "hemiola/pitch.heights", "hemiola/clef.order"], apart := false, laid := [("hemiola/pitch.heights", laid_hemiola_pitch_heights), ("hemiola/clef.designs", laid_hemiola_clef_designs), ("hemiola/clef.order", laid_hemiola_clef_order)], narrowed := true }
def ClefMirrorsUptoSaid : Prop := clefMirrorsUptoRow.holds Tryd.pinned (OpenSpec.upto clefMirrorsSpec)

/-- 'hemiolalaw08.ClefSignatures', WHERE WHAT IT READS IS OF BULK AT MOST 1048576: true; the input reads as it did. -/
def clefSignaturesUptoRow : OpenClaim := { program := "ytnakfeamimeioaadoor", sum := "7c22f9d9bfaeed350dfa7fed88c67e359ea860526be07ad6a1b5fed8a3e7f7be", func := "hemiola/hemiolalaw08.ClefSignatures", spec := "clefSignatures", named := ["hemiola/clef.designs", "hemiola/pitch.heights", "hemiola/clef.order"], apart := false, laid := [("hemiola/pitch.heights", laid_hemiola_pitch_heights), ("hemiola/clef.designs", laid_hemiola_clef_designs), ("hemiola/clef.order", laid_hemiola_clef_order)], narrowed := true }
def ClefSignaturesUptoSaid : Prop := clefSignaturesUptoRow.holds Tryd.pinned (OpenSpec.upto clefSignaturesSpec)

/-- 'hemiolalaw08.ClefShapes', WHERE WHAT IT READS IS OF BULK AT MOST 1048576: true; the input reads as it did. -/
def clefShapesUptoRow : OpenClaim := { program := "ytnakfeamimeioaadoor", sum := "7c22f9d9bfaeed350dfa7fed88c67e359ea860526be07ad6a1b5fed8a3e7f7be", func := "hemiola/hemiolalaw08.ClefShapes", spec := "clefShapes", named := ["hemiola/clef.order", "hemiola/clef.designs", "hemiola/pitch.heights"], apart := false, laid := [("hemiola/pitch.heights", laid_hemiola_pitch_heights), ("hemiola/clef.designs", laid_hemiola_clef_designs), ("hemiola/clef.order", laid_hemiola_clef_order)], narrowed := true }
def ClefShapesUptoSaid : Prop := clefShapesUptoRow.holds Tryd.pinned (OpenSpec.upto clefShapesSpec)

/-- 'hemiolalaw08.ClefBest', WHERE WHAT IT READS IS OF BULK AT MOST 1048576: true; the input reads as it did. -/
def clefBestUptoRow : OpenClaim := { program := "ytnakfeamimeioaadoor", sum := "7c22f9d9bfaeed350dfa7fed88c67e359ea860526be07ad6a1b5fed8a3e7f7be", func := "hemiola/hemiolalaw08.ClefBest", spec := "clefBest", named := ["hemiola/pitch.heights", "hemiola/clef.designs", "hemiola/clef.order"], apart := false, laid := [("hemiola/pitch.heights", laid_hemiola_pitch_heights), ("hemiola/clef.designs", laid_hemiola_clef_designs), ("hemiola/clef.order", laid_hemiola_clef_order)], narrowed := true }
def ClefBestUptoSaid : Prop := clefBestUptoRow.holds Tryd.pinned (OpenSpec.upto clefBestSpec)

/-- 'hemiolalaw08.ClefNames', WHERE WHAT IT READS IS OF BULK AT MOST 1048576: true; the input reads as it did. -/
def clefNamesUptoRow : OpenClaim := { program := "ytnakfeamimeioaadoor", sum := "7c22f9d9bfaeed350dfa7fed88c67e359ea860526be07ad6a1b5fed8a3e7f7be", func := "hemiola/hemiolalaw08.ClefNames", spec := "clefNames", named := ["hemiola/clef.designs", "hemiola/pitch.heights", "hemiola/clef.order"], apart := false, laid := [("hemiola/pitch.heights", laid_hemiola_pitch_heights), ("hemiola/clef.designs", laid_hemiola_clef_designs), ("hemiola/clef.order", laid_hemiola_clef_order)], narrowed := true }
def ClefNamesUptoSaid : Prop := clefNamesUptoRow.holds Tryd.pinned (OpenSpec.upto clefNamesSpec)

end Rows
end Go.Proofs.YtnakfeamimeioaaDoor
