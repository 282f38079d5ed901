/-
  No cell of these rows narrows 'for every input' (looked for: loops, veiled, ifaces, maps, wideKeys, modest, calm, conditions, laid).
  DERIVED. THE GIVEN ROWS OF THIS SEAT. 10 by the template 'for every input the law returns true; each argument reads behind the call as it read before'; 0 by the template 'total and deterministic' (their statements: YtabaiklagobimaaTotals.lean).
  GIVEN WITH THE SEED: the statements are not yours to turn. If you find one false, say at which input.
  Laid BY PROGRAM, IN A SANDBOX (cutbox-rows.mjs): the forced cells as the released guide's own fill.sh prints them over the translation d4cbea323f389518… (all of the seat's roots in one cut). By AI agents, Wed Nov 11 2026. No macro, syntax, notation, axiom, sorry.
-/
import Derived.Test.YtabaiklagobimaaChecked
import GoSem.Claim
import GoSem.ClaimJoined
import GoSem.ClaimMapViews
import Derived.JoinedTies
import Derived.KernelRfl
namespace Go.Proofs.Ytabaiklagobimaa
/- THE CELL 'sum', in the pinned program and in every row, IS THE sha256 OF THE DUMP (.gsa) THAT YtabaiklagobimaaProg.lean LOADS. Nothing in Lean hashes anything: it is a label: what it is worth is what the hold of that sum in a sandbox is worth. -/
noncomputable def Try.pinned : Pinned := { name := "ytabaiklagobimaa", sum := "d4cbea323f3895180bf9b1d1538d27312d9fce41f969117b96457c509be33bf3", checked := Try.checked }
namespace Rows
def none {H : Type} : Left H := { results := [], args := [] }

/-- 'hemiolalaw03.TupletChecks': WHATEVER THE INPUT: true; the input reads as it did. -/
def tupletChecksSpec : ChangeSpec := { name := "tupletChecks", fn := fun _ => fun
  | [d1, d2] => { results := [.lit (.bool true)], args := [d1, d2] }
  | _ => none }
def tupletChecksRow : OpenClaim := { program := "ytabaiklagobimaa", sum := "d4cbea323f3895180bf9b1d1538d27312d9fce41f969117b96457c509be33bf3", func := "hemiola/hemiolalaw03.TupletChecks", spec := "tupletChecks", unfollowed := true, recurses := true, apart := false }
def TupletChecksSaid : Prop := tupletChecksRow.holds Try.pinned (OpenSpec.ofChange tupletChecksSpec)

/-- ITS FALSE NEIGHBOUR: 'it returns false'. Refute it at one input. -/
def tupletChecksWrong : ChangeSpec := { name := "tupletChecks", fn := fun _ => fun
  | [d1, d2] => { results := [.lit (.bool false)], args := [d1, d2] }
  | _ => none }
def TupletChecksWrongFalsely : Prop := tupletChecksRow.holds Try.pinned (OpenSpec.ofChange tupletChecksWrong)

/-- 'hemiolalaw03.TupletOrder': WHATEVER THE INPUT: true; the input reads as it did. -/
def tupletOrderSpec : ChangeSpec := { name := "tupletOrder", fn := fun _ => fun
  | [d1, d2] => { results := [.lit (.bool true)], args := [d1, d2] }
  | _ => none }
def tupletOrderRow : OpenClaim := { program := "ytabaiklagobimaa", sum := "d4cbea323f3895180bf9b1d1538d27312d9fce41f969117b96457c509be33bf3", func := "hemiola/hemiolalaw03.TupletOrder", spec := "tupletOrder", unfollowed := true, recurses := true, apart := false }
def TupletOrderSaid : Prop := tupletOrderRow.holds Try.pinned (OpenSpec.ofChange tupletOrderSpec)

/-- ITS FALSE NEIGHBOUR: 'it returns false'. Refute it at one input. -/
def tupletOrderWrong : ChangeSpec := { name := "tupletOrder", fn := fun _ => fun
  | [d1, d2] => { results := [.lit (.bool false)], args := [d1, d2] }
  | _ => none }
def TupletOrderWrongFalsely : Prop := tupletOrderRow.holds Try.pinned (OpenSpec.ofChange tupletOrderWrong)

/-- 'hemiolalaw03.TupletRatios': WHATEVER THE INPUT: true; the input reads as it did. -/
def tupletRatiosSpec : ChangeSpec := { name := "tupletRatios", fn := fun _ => fun
  | [d1, d2] => { results := [.lit (.bool true)], args := [d1, d2] }
  | _ => none }
def tupletRatiosRow : OpenClaim := { program := "ytabaiklagobimaa", sum := "d4cbea323f3895180bf9b1d1538d27312d9fce41f969117b96457c509be33bf3", func := "hemiola/hemiolalaw03.TupletRatios", spec := "tupletRatios", unfollowed := true, recurses := true, apart := false }
def TupletRatiosSaid : Prop := tupletRatiosRow.holds Try.pinned (OpenSpec.ofChange tupletRatiosSpec)

/-- ITS FALSE NEIGHBOUR: 'it returns false'. Refute it at one input. -/
def tupletRatiosWrong : ChangeSpec := { name := "tupletRatios", fn := fun _ => fun
  | [d1, d2] => { results := [.lit (.bool false)], args := [d1, d2] }
  | _ => none }
def TupletRatiosWrongFalsely : Prop := tupletRatiosRow.holds Try.pinned (OpenSpec.ofChange tupletRatiosWrong)

/-- 'hemiolalaw03.TupletLengths': WHATEVER THE INPUT: true; the input reads as it did. -/
def tupletLengthsSpec : ChangeSpec := { name := "tupletLengths", fn := fun _ => fun
  | [d1, d2] => { results := [.lit (.bool true)], args := [d1, d2] }
  | _ => none }
def tupletLengthsRow : OpenClaim := { program := "ytabaiklagobimaa", sum := "d4cbea323f3895180bf9b1d1538d27312d9fce41f969117b96457c509be33bf3", func := "hemiola/hemiolalaw03.TupletLengths", spec := "tupletLengths", unfollowed := true, recurses := true, apart := false }
def TupletLengthsSaid : Prop := tupletLengthsRow.holds Try.pinned (OpenSpec.ofChange tupletLengthsSpec)

/-- ITS FALSE NEIGHBOUR: 'it returns false'. Refute it at one input. -/
def tupletLengthsWrong : ChangeSpec := { name := "tupletLengths", fn := fun _ => fun
  | [d1, d2] => { results := [.lit (.bool false)], args := [d1, d2] }
  | _ => none }
def TupletLengthsWrongFalsely : Prop := tupletLengthsRow.holds Try.pinned (OpenSpec.ofChange tupletLengthsWrong)

/-- 'hemiolalaw03.TupletSingle': WHATEVER THE INPUT: true; the input reads as it did. -/
def tupletSingleSpec : ChangeSpec := { name := "tupletSingle", fn := fun _ => fun
  | [d1, d2, d3] => { results := [.lit (.bool true)], args := [d1, d2, d3] }
  | _ => none }
def tupletSingleRow : OpenClaim := { program := "ytabaiklagobimaa", sum := "d4cbea323f3895180bf9b1d1538d27312d9fce41f969117b96457c509be33bf3", func := "hemiola/hemiolalaw03.TupletSingle", spec := "tupletSingle", unfollowed := true, recurses := true, apart := false }
def TupletSingleSaid : Prop := tupletSingleRow.holds Try.pinned (OpenSpec.ofChange tupletSingleSpec)

/-- ITS FALSE NEIGHBOUR: 'it returns false'. Refute it at one input. -/
def tupletSingleWrong : ChangeSpec := { name := "tupletSingle", fn := fun _ => fun
  | [d1, d2, d3] => { results := [.lit (.bool false)], args := [d1, d2, d3] }
  | _ => none }
def TupletSingleWrongFalsely : Prop := tupletSingleRow.holds Try.pinned (OpenSpec.ofChange tupletSingleWrong)

/-- 'hemiolalaw03.TupletScales': WHATEVER THE INPUT: true; the input reads as it did. -/
def tupletScalesSpec : ChangeSpec := { name := "tupletScales", fn := fun _ => fun
  | [d1, d2, d3] => { results := [.lit (.bool true)], args := [d1, d2, d3] }
  | _ => none }
def tupletScalesRow : OpenClaim := { program := "ytabaiklagobimaa", sum := "d4cbea323f3895180bf9b1d1538d27312d9fce41f969117b96457c509be33bf3", func := "hemiola/hemiolalaw03.TupletScales", spec := "tupletScales", unfollowed := true, recurses := true, apart := false }
def TupletScalesSaid : Prop := tupletScalesRow.holds Try.pinned (OpenSpec.ofChange tupletScalesSpec)

/-- ITS FALSE NEIGHBOUR: 'it returns false'. Refute it at one input. -/
def tupletScalesWrong : ChangeSpec := { name := "tupletScales", fn := fun _ => fun
  | [d1, d2, d3] => { results := [.lit (.bool false)], args := [d1, d2, d3] }
  | _ => none }
def TupletScalesWrongFalsely : Prop := tupletScalesRow.holds Try.pinned (OpenSpec.ofChange tupletScalesWrong)

/-- 'hemiolalaw03.TupletTrees': WHATEVER THE INPUT: true; the input reads as it did. -/
def tupletTreesSpec : ChangeSpec := { name := "tupletTrees", fn := fun _ => fun
  | [d1, d2] => { results := [.lit (.bool true)], args := [d1, d2] }
  | _ => none }
def tupletTreesRow : OpenClaim := { program := "ytabaiklagobimaa", sum := "d4cbea323f3895180bf9b1d1538d27312d9fce41f969117b96457c509be33bf3", func := "hemiola/hemiolalaw03.TupletTrees", spec := "tupletTrees", unfollowed := true, recurses := true, apart := false }
def TupletTreesSaid : Prop := tupletTreesRow.holds Try.pinned (OpenSpec.ofChange tupletTreesSpec)

/-- ITS FALSE NEIGHBOUR: 'it returns false'. Refute it at one input. -/
def tupletTreesWrong : ChangeSpec := { name := "tupletTrees", fn := fun _ => fun
  | [d1, d2] => { results := [.lit (.bool false)], args := [d1, d2] }
  | _ => none }
def TupletTreesWrongFalsely : Prop := tupletTreesRow.holds Try.pinned (OpenSpec.ofChange tupletTreesWrong)

/-- 'hemiolalaw03.TupletUnits': WHATEVER THE INPUT: true; the input reads as it did. -/
def tupletUnitsSpec : ChangeSpec := { name := "tupletUnits", fn := fun _ => fun
  | [d1, d2] => { results := [.lit (.bool true)], args := [d1, d2] }
  | _ => none }
def tupletUnitsRow : OpenClaim := { program := "ytabaiklagobimaa", sum := "d4cbea323f3895180bf9b1d1538d27312d9fce41f969117b96457c509be33bf3", func := "hemiola/hemiolalaw03.TupletUnits", spec := "tupletUnits", unfollowed := true, recurses := true, apart := false }
def TupletUnitsSaid : Prop := tupletUnitsRow.holds Try.pinned (OpenSpec.ofChange tupletUnitsSpec)

/-- ITS FALSE NEIGHBOUR: 'it returns false'. Refute it at one input. -/
def tupletUnitsWrong : ChangeSpec := { name := "tupletUnits", fn := fun _ => fun
  | [d1, d2] => { results := [.lit (.bool false)], args := [d1, d2] }
  | _ => none }
def TupletUnitsWrongFalsely : Prop := tupletUnitsRow.holds Try.pinned (OpenSpec.ofChange tupletUnitsWrong)

/-- 'hemiolalaw03.TupletInserts': WHATEVER THE INPUT: true; the input reads as it did. -/
def tupletInsertsSpec : ChangeSpec := { name := "tupletInserts", fn := fun _ => fun
  | [d1, d2, d3] => { results := [.lit (.bool true)], args := [d1, d2, d3] }
  | _ => none }
def tupletInsertsRow : OpenClaim := { program := "ytabaiklagobimaa", sum := "d4cbea323f3895180bf9b1d1538d27312d9fce41f969117b96457c509be33bf3", func := "hemiola/hemiolalaw03.TupletInserts", spec := "tupletInserts", unfollowed := true, recurses := true, apart := false }
def TupletInsertsSaid : Prop := tupletInsertsRow.holds Try.pinned (OpenSpec.ofChange tupletInsertsSpec)

/-- ITS FALSE NEIGHBOUR: 'it returns false'. Refute it at one input. -/
def tupletInsertsWrong : ChangeSpec := { name := "tupletInserts", fn := fun _ => fun
  | [d1, d2, d3] => { results := [.lit (.bool false)], args := [d1, d2, d3] }
  | _ => none }
def TupletInsertsWrongFalsely : Prop := tupletInsertsRow.holds Try.pinned (OpenSpec.ofChange tupletInsertsWrong)

/-- 'hemiolalaw03.TupletDeletes': WHATEVER THE INPUT: true; the input reads as it did. -/
def tupletDeletesSpec : ChangeSpec := { name := "tupletDeletes", fn := fun _ => fun
  | [d1, d2, d3] => { results := [.lit (.bool true)], args := [d1, d2, d3] }
  | _ => none }
def tupletDeletesRow : OpenClaim := { program := "ytabaiklagobimaa", sum := "d4cbea323f3895180bf9b1d1538d27312d9fce41f969117b96457c509be33bf3", func := "hemiola/hemiolalaw03.TupletDeletes", spec := "tupletDeletes", unfollowed := true, recurses := true, apart := false }
def TupletDeletesSaid : Prop := tupletDeletesRow.holds Try.pinned (OpenSpec.ofChange tupletDeletesSpec)

/-- ITS FALSE NEIGHBOUR: 'it returns false'. Refute it at one input. -/
def tupletDeletesWrong : ChangeSpec := { name := "tupletDeletes", fn := fun _ => fun
  | [d1, d2, d3] => { results := [.lit (.bool false)], args := [d1, d2, d3] }
  | _ => none }
def TupletDeletesWrongFalsely : Prop := tupletDeletesRow.holds Try.pinned (OpenSpec.ofChange tupletDeletesWrong)

/- THE SECOND FORM. 'bulk': how many values and letters a reading holds, each counted each time it is reached (what is shared counts as often as it is met; a slice's spare places count too). A statement '..UptoSaid' is the law's where the arguments, and the package variables that the reading takes, are together of bulk at most 1048576: NARROWER than '..Said'. Prove '..Said' where nothing that the law and all that it calls make is longer than what came in: it says more and counts as full. Else prove '..UptoSaid'. A law counts once. -/
mutual
def uptoBulk {H : Type} : DataW H → Nat
  | .lit (.string bytes) => bytes.length + 1
  | .lit _ => 1
  | .nil => 1
  | .ptr d => uptoBulk d + 1
  | .slice elems spare => uptoBulkAll elems + uptoBulkAll spare + 1
  | .agg parts => uptoBulkAll parts + 1
  | .iface _ d => uptoBulk d + 1
  | .map entries => uptoBulkEntries entries + 1
  | .held _ => 1
def uptoBulkAll {H : Type} : List (DataW H) → Nat
  | [] => 0
  | d :: r => uptoBulk d + uptoBulkAll r
def uptoBulkEntries {H : Type} : List (Lit × DataW H) → Nat
  | [] => 0
  | x :: r => uptoBulkEntry x + uptoBulkEntries r
def uptoBulkEntry {H : Type} : Lit × DataW H → Nat
  | (.string bytes, d) => bytes.length + uptoBulk d + 1
  | (_, d) => uptoBulk d + 1
 end
def uptoSmall : (H : Type) → List (DataW H) → Bool := fun _ ds => decide (uptoBulkAll ds ≤ 1048576)
def OpenSpec.upto (s : _root_.Go.ChangeSpec) : _root_.Go.OpenSpec := { _root_.Go.OpenSpec.ofChange s with cond := some uptoSmall }

/-- 'hemiolalaw03.TupletChecks', WHERE WHAT IT READS IS OF BULK AT MOST 1048576: true; the input reads as it did. -/
def tupletChecksUptoRow : OpenClaim := { program := "ytabaiklagobimaa", sum := "d4cbea323f3895180bf9b1d1538d27312d9fce41f969117b96457c509be33bf3", func := "hemiola/hemiolalaw03.TupletChecks", spec := "tupletChecks", unfollowed := true, recurses := true, apart := false, narrowed := true }
def TupletChecksUptoSaid : Prop := tupletChecksUptoRow.holds Try.pinned (OpenSpec.upto tupletChecksSpec)

/-- 'hemiolalaw03.TupletOrder', WHERE WHAT IT READS IS OF BULK AT MOST 1048576: true; the input reads as it did. -/
def tupletOrderUptoRow : OpenClaim := { program := "ytabaiklagobimaa", sum := "d4cbea323f3895180bf9b1d1538d27312d9fce41f969117b96457c509be33bf3", func := "hemiola/hemiolalaw03.TupletOrder", spec := "tupletOrder", unfollowed := true, recurses := true, apart := false, narrowed := true }
def TupletOrderUptoSaid : Prop := tupletOrderUptoRow.holds Try.pinned (OpenSpec.upto tupletOrderSpec)

/-- 'hemiolalaw03.TupletRatios', WHERE WHAT IT READS IS OF BULK AT MOST 1048576: true; the input reads as it did. -/
def tupletRatiosUptoRow : OpenClaim := { program := "ytabaiklagobimaa", sum := "d4cbea323f3895180bf9b1d1538d27312d9fce41f969117b96457c509be33bf3", func := "hemiola/hemiolalaw03.TupletRatios", spec := "tupletRatios", unfollowed := true, recurses := true, apart := false, narrowed := true }
def TupletRatiosUptoSaid : Prop := tupletRatiosUptoRow.holds Try.pinned (OpenSpec.upto tupletRatiosSpec)

/-- 'hemiolalaw03.TupletLengths', WHERE WHAT IT READS IS OF BULK AT MOST 1048576: true; the input reads as it did. -/
def tupletLengthsUptoRow : OpenClaim := { program := "ytabaiklagobimaa", sum := "d4cbea323f3895180bf9b1d1538d27312d9fce41f969117b96457c509be33bf3", func := "hemiola/hemiolalaw03.TupletLengths", spec := "tupletLengths", unfollowed := true, recurses := true, apart := false, narrowed := true }
def TupletLengthsUptoSaid : Prop := tupletLengthsUptoRow.holds Try.pinned (OpenSpec.upto tupletLengthsSpec)

/-- 'hemiolalaw03.TupletSingle', WHERE WHAT IT READS IS OF BULK AT MOST 1048576: true; the input reads as it did. -/
def tupletSingleUptoRow : OpenClaim := { program := "ytabaiklagobimaa", sum := "d4cbea323f3895180bf9b1d1538d27312d9fce41f969117b96457c509be33bf3", func := "hemiola/hemiolalaw03.TupletSingle", spec := "tupletSingle", unfollowed := true, recurses := true, apart := false, narrowed := true }
def TupletSingleUptoSaid : Prop := tupletSingleUptoRow.holds Try.pinned (OpenSpec.upto tupletSingleSpec)

/-- 'hemiolalaw03.TupletScales', WHERE WHAT IT READS IS OF BULK AT MOST 1048576: true; the input reads as it did. -/
def tupletScalesUptoRow : OpenClaim := { program := "ytabaiklagobimaa", sum := "d4cbea323f3895180bf9b1d1538d27312d9fce41f969117b96457c509be33bf3", func := "hemiola/hemiolalaw03.TupletScales", spec := "tupletScales", unfollowed := true, recurses := true, apart := false, narrowed := true }
def TupletScalesUptoSaid : Prop := tupletScalesUptoRow.holds Try.pinned (OpenSpec.upto tupletScalesSpec)

/-- 'hemiolalaw03.TupletTrees', WHERE WHAT IT READS IS OF BULK AT MOST 1048576: true; the input reads as it did. -/
def tupletTreesUptoRow : OpenClaim := { program := "ytabaiklagobimaa", sum := "d4cbea323f3895180bf9b1d1538d27312d9fce41f969117b96457c509be33bf3", func := "hemiola/hemiolalaw03.TupletTrees", spec := "tupletTrees", unfollowed := true, recurses := true, apart := false, narrowed := true }
def TupletTreesUptoSaid : Prop := tupletTreesUptoRow.holds Try.pinned (OpenSpec.upto tupletTreesSpec)

/-- 'hemiolalaw03.TupletUnits', WHERE WHAT IT READS IS OF BULK AT MOST 1048576: true; the input reads as it did. -/
def tupletUnitsUptoRow : OpenClaim := { program := "ytabaiklagobimaa", sum := "d4cbea323f3895180bf9b1d1538d27312d9fce41f969117b96457c509be33bf3", func := "hemiola/hemiolalaw03.TupletUnits", spec := "tupletUnits", unfollowed := true, recurses := true, apart := false, narrowed := true }
def TupletUnitsUptoSaid : Prop := tupletUnitsUptoRow.holds Try.pinned (OpenSpec.upto tupletUnitsSpec)

/-- 'hemiolalaw03.TupletInserts', WHERE WHAT IT READS IS OF BULK AT MOST 1048576: true; the input reads as it did. -/
def tupletInsertsUptoRow : OpenClaim := { program := "ytabaiklagobimaa", sum := "d4cbea323f3895180bf9b1d1538d27312d9fce41f969117b96457c509be33bf3", func := "hemiola/hemiolalaw03.TupletInserts", spec := "tupletInserts", unfollowed := true, recurses := true, apart := false, narrowed := true }
def TupletInsertsUptoSaid : Prop := tupletInsertsUptoRow.holds Try.pinned (OpenSpec.upto tupletInsertsSpec)

/-- 'hemiolalaw03.TupletDeletes', WHERE WHAT IT READS IS OF BULK AT MOST 1048576: true; the input reads as it did. -/
def tupletDeletesUptoRow : OpenClaim := { program := "ytabaiklagobimaa", sum := "d4cbea323f3895180bf9b1d1538d27312d9fce41f969117b96457c509be33bf3", func := "hemiola/hemiolalaw03.TupletDeletes", spec := "tupletDeletes", unfollowed := true, recurses := true, apart := false, narrowed := true }
def TupletDeletesUptoSaid : Prop := tupletDeletesUptoRow.holds Try.pinned (OpenSpec.upto tupletDeletesSpec)

end Rows
end Go.Proofs.Ytabaiklagobimaa
