/-
  NARROWER THAN 'FOR EVERY INPUT', by the rows' own cells (each row's printed sentence says how): AccidentalDisplays: laid · AccidentalReads: laid · AccidentalRoundTrip: laid · AccidentalNeeded: laid · AccidentalScale: laid · AccidentalShows: laid · AccidentalCarries: laid · AccidentalBefore: laid · AccidentalKinds: laid · AccidentalLimit: laid.
  DERIVED. THE GIVEN ROWS OF THIS SEAT. 10 by the template 'for every input the law returns true; each argument reads behind the call as it read before'; 0 by the template 'total and deterministic' (their statements: YtghlecocnflbnaaDoorTotals.lean).
  GIVEN WITH THE SEED: the statements are not yours to turn. If you find one false, say at which input.
  Laid BY PROGRAM, IN A SANDBOX (cutbox-rows.mjs): the forced cells as the released guide's own fill.sh prints them over the translation de5f74ee28c88116… (all of the seat's roots in one cut). By AI agents, Wed Nov 11 2026. No macro, syntax, notation, axiom, sorry.
-/
import Derived.Test.YtghlecocnflbnaaDoorChecked
import GoSem.Claim
import GoSem.ClaimJoined
import GoSem.ClaimMapViews
import Derived.JoinedTies
import Derived.KernelRfl
namespace Go.Proofs.YtghlecocnflbnaaDoor
/- THE CELL 'sum', in the pinned program and in every row, IS THE sha256 OF THE DUMP (.gsa) THAT YtghlecocnflbnaaDoorProg.lean LOADS. Nothing in Lean hashes anything: it is a label: what it is worth is what the hold of that sum in a sandbox is worth. -/
noncomputable def Tryd.pinned : Pinned := { name := "ytghlecocnflbnaadoor", sum := "de5f74ee28c88116aa0748802313e61b8a7f912a631f7732b4c4a61c0479be1c", checked := Tryd.checked }
namespace Rows
def none {H : Type} : Left H := { results := [], args := [] }

/- WHAT THE LISTED PACKAGE-LEVEL VARIABLES READ AS WHEN THE CALL BEGINS. Each datum BY PROGRAM (the guide's laid-datum.mjs) off the statement by which the dump's own 'gosem.cut.vars' lays the variable. In a bare row this is a premise. The card (YtghlecocnflbnaaDoorCards.lean) ties it to the program's text. -/
def laid_hemiola_key_sharps {H : Type} : DataW H := .agg [.lit (.int .i64 3), .lit (.int .i64 0), .lit (.int .i64 4), .lit (.int .i64 1), .lit (.int .i64 5), .lit (.int .i64 2), .lit (.int .i64 6)]

/-- 'hemiolalaw10.AccidentalDisplays': WHATEVER THE INPUT: true; the input reads as it did. -/
def accidentalDisplaysSpec : ChangeSpec := { name := "accidentalDisplays", fn := fun _ => fun
  | [d1, d2] => { results := [.lit (.bool true)], args := [d1, d2] }
  | _ => none }
def accidentalDisplaysRow : OpenClaim := { program := "ytghlecocnflbnaadoor", sum := "de5f74ee28c88116aa0748802313e61b8a7f912a631f7732b4c4a61c0479be1c", func := "hemiola/hemiolalaw10.AccidentalDisplays", spec := "accidentalDisplays", named := ["hemiola/key.sharps"], apart := false, laid := [("hemiola/key.sharps", laid_hemiola_key_sharps)] }
def AccidentalDisplaysSaid : Prop := accidentalDisplaysRow.holds Tryd.pinned (OpenSpec.ofChange accidentalDisplaysSpec)

/-- ITS FALSE NEIGHBOUR: 'it returns false'. Refute it at one input. -/
def accidentalDisplaysWrong : ChangeSpec := { name := "accidentalDisplays", fn := fun _ => fun
  | [d1, d2] => { results := [.lit (.bool false)], args := [d1, d2] }
  | _ => none }
def AccidentalDisplaysWrongFalsely : Prop := accidentalDisplaysRow.holds Tryd.pinned (OpenSpec.ofChange accidentalDisplaysWrong)

/-- 'hemiolalaw10.AccidentalReads': WHATEVER THE INPUT: true; the input reads as it did. -/
def accidentalReadsSpec : ChangeSpec := { name := "accidentalReads", fn := fun _ => fun
  | [d1, d2] => { results := [.lit (.bool true)], args := [d1, d2] }
  | _ => none }
def accidentalReadsRow : OpenClaim := { program := "ytghlecocnflbnaadoor", sum := "de5f74ee28c88116aa0748802313e61b8a7f912a631f7732b4c4a61c0479be1c", func := "hemiola/hemiolalaw10.AccidentalReads", spec := "accidentalReads", named := ["hemiola/key.sharps"], apart := false, laid := [("hemiola/key.sharps", laid_hemiola_key_sharps)] }
def AccidentalReadsSaid : Prop := accidentalReadsRow.holds Tryd.pinned (OpenSpec.ofChange accidentalReadsSpec)

/-- ITS FALSE NEIGHBOUR: 'it returns false'. Refute it at one input. -/
def accidentalReadsWrong : ChangeSpec := { name := "accidentalReads", fn := fun _ => fun
  | [d1, d2] => { results := [.lit (.bool false)], args := [d1, d2] }
  | _ => none }
def AccidentalReadsWrongFalsely : Prop := accidentalReadsRow.holds Tryd.pinned (OpenSpec.ofChange accidentalReadsWrong)

/-- 'hemiolalaw10.AccidentalRoundTrip': WHATEVER THE INPUT: true; the input reads as it did. -/
def accidentalRoundTripSpec : ChangeSpec := { name := "accidentalRoundTrip", fn := fun _ => fun
  | [d1, d2] => { results := [.lit (.bool true)], args := [d1, d2] }
  | _ => none }
def accidentalRoundTripRow : OpenClaim := { program := "ytghlecocnflbnaadoor", sum := "de5f74ee28c88116aa0748802313e61b8a7f912a631f7732b4c4a61c0479be1c", func := "hemiola/hemiolalaw10.AccidentalRoundTrip", spec := "accidentalRoundTrip", named := ["hemiola/key.sharps"], apart := false, laid := [("hemiola/key.sharps", laid_hemiola_key_sharps)] }
def AccidentalRoundTripSaid : Prop := accidentalRoundTripRow.holds Tryd.pinned (OpenSpec.ofChange accidentalRoundTripSpec)

/-- ITS FALSE NEIGHBOUR: 'it returns false'. Refute it at one input. -/
def accidentalRoundTripWrong : ChangeSpec := { name := "accidentalRoundTrip", fn := fun _ => fun
  | [d1, d2] => { results := [.lit (.bool false)], args := [d1, d2] }
  | _ => none }
def AccidentalRoundTripWrongFalsely : Prop := accidentalRoundTripRow.holds Tryd.pinned (OpenSpec.ofChange accidentalRoundTripWrong)

/-- 'hemiolalaw10.AccidentalNeeded': WHATEVER THE INPUT: true; the input reads as it did. -/
def accidentalNeededSpec : ChangeSpec := { name := "accidentalNeeded", fn := fun _ => fun
  | [d1, d2, d3] => { results := [.lit (.bool true)], args := [d1, d2, d3] }
  | _ => none }
def accidentalNeededRow : OpenClaim := { program := "ytghlecocnflbnaadoor", sum := "de5f74ee28c88116aa0748802313e61b8a7f912a631f7732b4c4a61c0479be1c", func := "hemiola/hemiolalaw10.AccidentalNeeded", spec := "accidentalNeeded", named := ["hemiola/key.sharps"], apart := false, laid := [("hemiola/key.sharps", laid_hemiola_key_sharps)] }
def AccidentalNeededSaid : Prop := accidentalNeededRow.holds Tryd.pinned (OpenSpec.ofChange accidentalNeededSpec)

/-- ITS FALSE NEIGHBOUR: 'it returns false'. Refute it at one input. -/
def accidentalNeededWrong : ChangeSpec := { name := "accidentalNeeded", fn := fun _ => fun
  | [d1, d2, d3] => { results := [.lit (.bool false)], args := [d1, d2, d3] }
  | _ => none }
def AccidentalNeededWrongFalsely : Prop := accidentalNeededRow.holds Tryd.pinned (OpenSpec.ofChange accidentalNeededWrong)

/-- 'hemiolalaw10.AccidentalScale': WHATEVER THE INPUT: true; the input reads as it did. -/
def accidentalScaleSpec : ChangeSpec := { name := "accidentalScale", fn := fun _ => fun
  | [d1, d2] => { results := [.lit (.bool true)], args := [d1, d2] }
  | _ => none }
def accidentalScaleRow : OpenClaim := { program := "ytghlecocnflbnaadoor", sum := "de5f74ee28c88116aa0748802313e61b8a7f912a631f7732b4c4a61c0479be1c", func := "hemiola/hemiolalaw10.AccidentalScale", spec := "accidentalScale", named := ["hemiola/key.sharps"], apart := false, laid := [("hemiola/key.sharps", laid_hemiola_key_sharps)] }
def AccidentalScaleSaid : Prop := accidentalScaleRow.holds Tryd.pinned (OpenSpec.ofChange accidentalScaleSpec)

/-- ITS FALSE NEIGHBOUR: 'it returns false'. Refute it at one input. -/
def accidentalScaleWrong : ChangeSpec := { name := "accidentalScale", fn := fun _ => fun
  | [d1, d2] => { results := [.lit (.bool false)], args := [d1, d2] }
  | _ => none }
def AccidentalScaleWrongFalsely : Prop := accidentalScaleRow.holds Tryd.pinned (OpenSpec.ofChange accidentalScaleWrong)

/-- 'hemiolalaw10.AccidentalShows': WHATEVER THE INPUT: true; the input reads as it did. -/
def accidentalShowsSpec : ChangeSpec := { name := "accidentalShows", fn := fun _ => fun
  | [d1, d2] => { results := [.lit (.bool true)], args := [d1, d2] }
  | _ => none }
def accidentalShowsRow : OpenClaim := { program := "ytghlecocnflbnaadoor", sum := "de5f74ee28c88116aa0748802313e61b8a7f912a631f7732b4c4a61c0479be1c", func := "hemiola/hemiolalaw10.AccidentalShows", spec := "accidentalShows", named := ["hemiola/key.sharps"], apart := false, laid := [("hemiola/key.sharps", laid_hemiola_key_sharps)] }
def AccidentalShowsSaid : Prop := accidentalShowsRow.holds Tryd.pinned (OpenSpec.ofChange accidentalShowsSpec)

/-- ITS FALSE NEIGHBOUR: 'it returns false'. Refute it at one input. -/
def accidentalShowsWrong : ChangeSpec := { name := "accidentalShows", fn := fun _ => fun
  | [d1, d2] => { results := [.lit (.bool false)], args := [d1, d2] }
  | _ => none }
def AccidentalShowsWrongFalsely : Prop := accidentalShowsRow.holds Tryd.pinned (OpenSpec.ofChange accidentalShowsWrong)

/-- 'hemiolalaw10.AccidentalCarries': WHATEVER THE INPUT: true; the input reads as it did. -/
def accidentalCarriesSpec : ChangeSpec := { name := "accidentalCarries", fn := fun _ => fun
  | [d1, d2] => { results := [.lit (.bool true)], args := [d1, d2] }
  | _ => none }
def accidentalCarriesRow : OpenClaim := { program := "ytghlecocnflbnaadoor", sum := "de5f74ee28c88116aa0748802313e61b8a7f912a631f7732b4c4a61c0479be1c", func := "hemiola/hemiolalaw10.AccidentalCarries", spec := "accidentalCarries", named := ["hemiola/key.sharps"], apart := false, laid := [("hemiola/key.sharps", laid_hemiola_key_sharps)] }
def AccidentalCarriesSaid : Prop := accidentalCarriesRow.holds Tryd.pinned (OpenSpec.ofChange accidentalCarriesSpec)

/-- ITS FALSE NEIGHBOUR: 'it returns false'. Refute it at one input. -/
def accidentalCarriesWrong : ChangeSpec := { name := "accidentalCarries", fn := fun _ => fun
  | [d1, d2] => { results := [.lit (.bool false)], args := [d1, d2] }
  | _ => none }
def AccidentalCarriesWrongFalsely : Prop := accidentalCarriesRow.holds Tryd.pinned (OpenSpec.ofChange accidentalCarriesWrong)

/-- 'hemiolalaw10.AccidentalBefore': WHATEVER THE INPUT: true; the input reads as it did. -/
def accidentalBeforeSpec : ChangeSpec := { name := "accidentalBefore", fn := fun _ => fun
  | [d1, d2, d3] => { results := [.lit (.bool true)], args := [d1, d2, d3] }
  | _ => none }
def accidentalBeforeRow : OpenClaim := { program := "ytghlecocnflbnaadoor", sum := "de5f74ee28c88116aa0748802313e61b8a7f912a631f7732b4c4a61c0479be1c", func := "hemiola/hemiolalaw10.AccidentalBefore", spec := "accidentalBefore", named := ["hemiola/key.sharps"], apart := false, laid := [("hemiola/key.sharps", laid_hemiola_key_sharps)] }
def AccidentalBeforeSaid : Prop := accidentalBeforeRow.holds Tryd.pinned (OpenSpec.ofChange accidentalBeforeSpec)

/-- ITS FALSE NEIGHBOUR: 'it returns false'. Refute it at one input. -/
def accidentalBeforeWrong : ChangeSpec := { name := "accidentalBefore", fn := fun _ => fun
  | [d1, d2, d3] => { results := [.lit (.bool false)], args := [d1, d2, d3] }
  | _ => none }
def AccidentalBeforeWrongFalsely : Prop := accidentalBeforeRow.holds Tryd.pinned (OpenSpec.ofChange accidentalBeforeWrong)

/-- 'hemiolalaw10.AccidentalKinds': WHATEVER THE INPUT: true; the input reads as it did. -/
def accidentalKindsSpec : ChangeSpec := { name := "accidentalKinds", fn := fun _ => fun
  | [d1, d2] => { results := [.lit (.bool true)], args := [d1, d2] }
  | _ => none }
def accidentalKindsRow : OpenClaim := { program := "ytghlecocnflbnaadoor", sum := "de5f74ee28c88116aa0748802313e61b8a7f912a631f7732b4c4a61c0479be1c", func := "hemiola/hemiolalaw10.AccidentalKinds", spec := "accidentalKinds", named := ["hemiola/key.sharps"], apart := false, laid := [("hemiola/key.sharps", laid_hemiola_key_sharps)] }
def AccidentalKindsSaid : Prop := accidentalKindsRow.holds Tryd.pinned (OpenSpec.ofChange accidentalKindsSpec)

/-- ITS FALSE NEIGHBOUR: 'it returns false'. Refute it at one input. -/
def accidentalKindsWrong : ChangeSpec := { name := "accidentalKinds", fn := fun _ => fun
  | [d1, d2] => { results := [.lit (.bool false)], args := [d1, d2] }
  | _ => none }
def AccidentalKindsWrongFalsely : Prop := accidentalKindsRow.holds Tryd.pinned (OpenSpec.ofChange accidentalKindsWrong)

/-- 'hemiolalaw10.AccidentalLimit': WHATEVER THE INPUT: true; the input reads as it did. -/
def accidentalLimitSpec : ChangeSpec := { name := "accidentalLimit", fn := fun _ => fun
  | [d1, d2] => { results := [.lit (.bool true)], args := [d1, d2] }
  | _ => none }
def accidentalLimitRow : OpenClaim := { program := "ytghlecocnflbnaadoor", sum := "de5f74ee28c88116aa0748802313e61b8a7f912a631f7732b4c4a61c0479be1c", func := "hemiola/hemiolalaw10.AccidentalLimit", spec := "accidentalLimit", named := ["hemiola/key.sharps"], apart := false, laid := [("hemiola/key.sharps", laid_hemiola_key_sharps)] }
def AccidentalLimitSaid : Prop := accidentalLimitRow.holds Tryd.pinned (OpenSpec.ofChange accidentalLimitSpec)

/-- ITS FALSE NEIGHBOUR: 'it returns false'. Refute it at one input. -/
def accidentalLimitWrong : ChangeSpec := { name := "accidentalLimit", fn := fun _ => fun
  | [d1, d2] => { results := [.lit (.bool false)], args := [d1, d2] }
  | _ => none }
def AccidentalLimitWrongFalsely : Prop := accidentalLimitRow.holds Tryd.pinned (OpenSpec.ofChange accidentalLimitWrong)

/- THE SECOND FORM. 'bulk': how many values and letters a reading holds, each counted each time it is reached (what is shared counts as often as it is met; a slice's spare places count too). A statement '..UptoSaid' is the law's where the arguments, and the package variables that the reading takes, are together of bulk at most 1048576: NARROWER than '..Said'. Prove '..Said' where nothing that the law and all that it calls make is longer than what came in: it says more and counts as full. Else prove '..UptoSaid'. A law counts once. -/
mutual
def uptoBulk {H : Type} : DataW H → Nat
  | .lit (.string bytes) => bytes.length + 1
  | .lit _ => 1
  | .nil => 1
  | .ptr d => uptoBulk d + 1
  | .slice elems spare => uptoBulkAll elems + uptoBulkAll spare + 1
  | .agg parts => uptoBulkAll parts + 1
  | .iface _ d => uptoBulk d + 1
  | .map entries => uptoBulkEntries entries + 1
  | .held _ => 1
def uptoBulkAll {H : Type} : List (DataW H) → Nat
  | [] => 0
  | d :: r => uptoBulk d + uptoBulkAll r
def uptoBulkEntries {H : Type} : List (Lit × DataW H) → Nat
  | [] => 0
  | x :: r => uptoBulkEntry x + uptoBulkEntries r
def uptoBulkEntry {H : Type} : Lit × DataW H → Nat
  | (.string bytes, d) => bytes.length + uptoBulk d + 1
  | (_, d) => uptoBulk d + 1
 end
def uptoSmall : (H : Type) → List (DataW H) → Bool := fun _ ds => decide (uptoBulkAll ds ≤ 1048576)
def OpenSpec.upto (s : _root_.Go.ChangeSpec) : _root_.Go.OpenSpec := { _root_.Go.OpenSpec.ofChange s with cond := some uptoSmall }

/-- 'hemiolalaw10.AccidentalDisplays', WHERE WHAT IT READS IS OF BULK AT MOST 1048576: true; the input reads as it did. -/
def accidentalDisplaysUptoRow : OpenClaim := { program := "ytghlecocnflbnaadoor", sum := "de5f74ee28c88116aa0748802313e61b8a7f912a631f7732b4c4a61c0479be1c", func := "hemiola/hemiolalaw10.AccidentalDisplays", spec := "accidentalDisplays", named := ["hemiola/key.sharps"], apart := false, laid := [("hemiola/key.sharps", laid_hemiola_key_sharps)], narrowed := true }
def AccidentalDisplaysUptoSaid : Prop := accidentalDisplaysUptoRow.holds Tryd.pinned (OpenSpec.upto accidentalDisplaysSpec)

/-- 'hemiolalaw10.AccidentalReads', WHERE WHAT IT READS IS OF BULK AT MOST 1048576: true; the input reads as it did. -/
def accidentalReadsUptoRow : OpenClaim := { program := "ytghlecocnflbnaadoor", sum := "de5f74ee28c88116aa0748802313e61b8a7f912a631f7732b4c4a61c0479be1c", func := "hemiola/hemiolalaw10.AccidentalReads", spec := "accidentalReads", named := ["hemiola/key.sharps"], apart := false, laid := [("hemiola/key.sharps", laid_hemiola_key_sharps)], narrowed := true }
def AccidentalReadsUptoSaid : Prop := accidentalReadsUptoRow.holds Tryd.pinned (OpenSpec.upto accidentalReadsSpec)

/-- 'hemiolalaw10.AccidentalRoundTrip', WHERE WHAT IT READS IS OF BULK AT MOST 1048576: true; the input reads as it did. -/
def accidentalRoundTripUptoRow : OpenClaim := { program := "ytghlecocnflbnaadoor", sum := "de5f74ee28c88116aa0748802313e61b8a7f912a631f7732b4c4a61c0479be1c", func := "hemiola/hemiolalaw10.AccidentalRoundTrip", spec := "accidentalRoundTrip", named := ["hemiola/key.sharps"], apart := false, laid := [("hemiola/key.sharps", laid_hemiola_key_sharps)], narrowed := true }
def AccidentalRoundTripUptoSaid : Prop := accidentalRoundTripUptoRow.holds Tryd.pinned (OpenSpec.upto accidentalRoundTripSpec)

/-- 'hemiolalaw10.AccidentalNeeded', WHERE WHAT IT READS IS OF BULK AT MOST 1048576: true; the input reads as it did. -/
def accidentalNeededUptoRow : OpenClaim := { program := "ytghlecocnflbnaadoor", sum := "de5f74ee28c88116aa0748802313e61b8a7f912a631f7732b4c4a61c0479be1c", func := "hemiola/hemiolalaw10.AccidentalNeeded", spec := "accidentalNeeded", named := ["hemiola/key.sharps"], apart := false, laid := [("hemiola/key.sharps", laid_hemiola_key_sharps)], narrowed := true }
def AccidentalNeededUptoSaid : Prop := accidentalNeededUptoRow.holds Tryd.pinned (OpenSpec.upto accidentalNeededSpec)

/-- 'hemiolalaw10.AccidentalScale', WHERE WHAT IT READS IS OF BULK AT MOST 1048576: true; the input reads as it did. -/
def accidentalScaleUptoRow : OpenClaim := { program := "ytghlecocnflbnaadoor", sum := "de5f74ee28c88116aa0748802313e61b8a7f912a631f7732b4c4a61c0479be1c", func := "hemiola/hemiolalaw10.AccidentalScale", spec := "accidentalScale", named := ["hemiola/key.sharps"], apart := false, laid := [("hemiola/key.sharps", laid_hemiola_key_sharps)], narrowed := true }
def AccidentalScaleUptoSaid : Prop := accidentalScaleUptoRow.holds Tryd.pinned (OpenSpec.upto accidentalScaleSpec)

/-- 'hemiolalaw10.AccidentalShows', WHERE WHAT IT READS IS OF BULK AT MOST 1048576: true; the input reads as it did. -/
def accidentalShowsUptoRow : OpenClaim := { program := "ytghlecocnflbnaadoor", sum := "de5f74ee28c88116aa0748802313e61b8a7f912a631f7732b4c4a61c0479be1c", func := "hemiola/hemiolalaw10.AccidentalShows", spec := "accidentalShows", named := ["hemiola/key.sharps"], apart := false, laid := [("hemiola/key.sharps", laid_hemiola_key_sharps)], narrowed := true }
def AccidentalShowsUptoSaid : Prop := accidentalShowsUptoRow.holds Tryd.pinned (OpenSpec.upto accidentalShowsSpec)

/-- 'hemiolalaw10.AccidentalCarries', WHERE WHAT IT READS IS OF BULK AT MOST 1048576: true; the input reads as it did. -/
def accidentalCarriesUptoRow : OpenClaim := { program := "ytghlecocnflbnaadoor", sum := "de5f74ee28c88116aa0748802313e61b8a7f912a631f7732b4c4a61c0479be1c", func := "hemiola/hemiolalaw10.AccidentalCarries", spec := "accidentalCarries", named := ["hemiola/key.sharps"], apart := false, laid := [("hemiola/key.sharps", laid_hemiola_key_sharps)], narrowed := true }
def AccidentalCarriesUptoSaid : Prop := accidentalCarriesUptoRow.holds Tryd.pinned (OpenSpec.upto accidentalCarriesSpec)

/-- 'hemiolalaw10.AccidentalBefore', WHERE WHAT IT READS IS OF BULK AT MOST 1048576: true; the input reads as it did. -/
def accidentalBeforeUptoRow : OpenClaim := { program := "ytghlecocnflbnaadoor", sum := "de5f74ee28c88116aa0748802313e61b8a7f912a631f7732b4c4a61c0479be1c", func := "hemiola/hemiolalaw10.AccidentalBefore", spec := "accidentalBefore", named := ["hemiola/key.sharps"], apart := false, laid := [("hemiola/key.sharps", laid_hemiola_key_sharps)], narrowed := true }
def AccidentalBeforeUptoSaid : Prop := accidentalBeforeUptoRow.holds Tryd.pinned (OpenSpec.upto accidentalBeforeSpec)

/-- 'hemiolalaw10.AccidentalKinds', WHERE WHAT IT READS IS OF BULK AT MOST 1048576: true; the input reads as it did. -/
def accidentalKindsUptoRow : OpenClaim := { program := "ytghlecocnflbnaadoor", sum := "de5f74ee28c88116aa0748802313e61b8a7f912a631f7732b4c4a61c0479be1c", func := "hemiola/hemiolalaw10.AccidentalKinds", spec := "accidentalKinds", named := ["hemiola/key.sharps"], apart := false, laid := [("hemiola/key.sharps", laid_hemiola_key_sharps)], narrowed := true }
def AccidentalKindsUptoSaid : Prop := accidentalKindsUptoRow.holds Tryd.pinned (OpenSpec.upto accidentalKindsSpec)

/-- 'hemiolalaw10.AccidentalLimit', WHERE WHAT IT READS IS OF BULK AT MOST 1048576: true; the input reads as it did. -/
def accidentalLimitUptoRow : OpenClaim := { program := "ytghlecocnflbnaadoor", sum := "de5f74ee28c88116aa0748802313e61b8a7f912a631f7732b4c4a61c0479be1c", func := "hemiola/hemiolalaw10.AccidentalLimit", spec := "accidentalLimit", named := ["hemiola/key.sharps"], apart := false, laid := [("hemiola/key.sharps", laid_hemiola_key_sharps)], narrowed := true }
def AccidentalLimitUptoSaid : Prop := accidentalLimitUptoRow.holds Tryd.pinned (OpenSpec.upto accidentalLimitSpec)

end Rows
end Go.Proofs.YtghlecocnflbnaaDoor
