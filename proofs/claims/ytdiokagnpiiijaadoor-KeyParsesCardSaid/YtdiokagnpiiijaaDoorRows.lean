/-
  NARROWER THAN 'FOR EVERY INPUT', by the rows' own cells (each row's printed sentence says how): KeyAlters: laid · KeyTonics: laid · KeyScales: laid · KeyNames: laid · KeyParses: laid · KeyTransposes: laid · KeySounds: laid · KeyDegrees: laid · KeyDiatonic: laid · KeyNaturals: laid.
  DERIVED. THE GIVEN ROWS OF THIS SEAT. 10 by the template 'for every input the law returns true; each argument reads behind the call as it read before'; 0 by the template 'total and deterministic' (their statements: YtdiokagnpiiijaaDoorTotals.lean).
  GIVEN WITH THE SEED: the statements are not yours to turn. If you find one false, say at which input.
  Laid BY PROGRAM, IN A SANDBOX (cutbox-rows.mjs): the forced cells as the released guide's own fill.sh prints them over the translation 637bc415a239ea0a… (all of the seat's roots in one cut). By AI agents, Wed Nov 11 2026. No macro, syntax, notation, axiom, sorry.
-/
import Derived.Test.YtdiokagnpiiijaaDoorChecked
import GoSem.Claim
import GoSem.ClaimJoined
import GoSem.ClaimMapViews
import Derived.JoinedTies
import Derived.KernelRfl
namespace Go.Proofs.YtdiokagnpiiijaaDoor
/- THE CELL 'sum', in the pinned program and in every row, IS THE sha256 OF THE DUMP (.gsa) THAT YtdiokagnpiiijaaDoorProg.lean LOADS. Nothing in Lean hashes anything: it is a label: what it is worth is what the hold of that sum in a sandbox is worth. -/
noncomputable def Tryd.pinned : Pinned := { name := "ytdiokagnpiiijaadoor", sum := "637bc415a239ea0a829b40337d6885d1401e0e32078f10dddec63b3ce2b401fb", checked := Tryd.checked }
namespace Rows
def none {H : Type} : Left H := { results := [], args := [] }

/- WHAT THE LISTED PACKAGE-LEVEL VARIABLES READ AS WHEN THE CALL BEGINS. Each datum BY PROGRAM (the guide's laid-datum.mjs) off the statement by which the dump's own 'gosem.cut.vars' lays the variable. In a bare row this is a premise. The card (YtdiokagnpiiijaaDoorCards.lean) ties it to the program's text. -/
def laid_hemiola_key_sharps {H : Type} : DataW H := .agg [.lit (.int .i64 3), .lit (.int .i64 0), .lit (.int .i64 4), .lit (.int .i64 1), .lit (.int .i64 5), .lit (.int .i64 2), .lit (.int .i64 6)]
def laid_hemiola_key_signs {H : Type} : DataW H := .agg [.lit (.string [98]), .lit (.string []), .lit (.string [35])]

/-- 'hemiolalaw07.KeyAlters': WHATEVER THE INPUT: true; the input reads as it did. -/
def keyAltersSpec : ChangeSpec := { name := "keyAlters", fn := fun _ => fun
  | [d1, d2] => { results := [.lit (.bool true)], args := [d1, d2] }
  | _ => none }
def keyAltersRow : OpenClaim := { program := "ytdiokagnpiiijaadoor", sum := "637bc415a239ea0a829b40337d6885d1401e0e32078f10dddec63b3ce2b401fb", func := "hemiola/hemiolalaw07.KeyAlters", spec := "keyAlters", named := ["hemiola/key.sharps", "hemiola/key.signs"], apart := false, laid := [("hemiola/key.sharps", laid_hemiola_key_sharps), ("hemiola/key.signs", laid_hemiola_key_signs)] }
def KeyAltersSaid : Prop := keyAltersRow.holds Tryd.pinned (OpenSpec.ofChange keyAltersSpec)

/-- ITS FALSE NEIGHBOUR: 'it returns false'. Refute it at one input. -/
def keyAltersWrong : ChangeSpec := { name := "keyAlters", fn := fun _ => fun
  | [d1, d2] => { results := [.lit (.bool false)], args := [d1, d2] }
  | _ => none }
def KeyAltersWrongFalsely : Prop := keyAltersRow.holds Tryd.pinned (OpenSpec.ofChange keyAltersWrong)

/-- 'hemiolalaw07.KeyTonics': WHATEVER THE INPUT: true; the input reads as it did. -/
def keyTonicsSpec : ChangeSpec := { name := "keyTonics", fn := fun _ => fun
  | [d1, d2, d3] => { results := [.lit (.bool true)], args := [d1, d2, d3] }
  | _ => none }
def keyTonicsRow : OpenClaim := { program := "ytdiokagnpiiijaadoor", sum := "637bc415a239ea0a829b40337d6885d1401e0e32078f10dddec63b3ce2b401fb", func := "hemiola/hemiolalaw07.KeyTonics", spec := "keyTonics", named := ["hemiola/key.sharps", "hemiola/key.signs"], apart := false, laid := [("hemiola/key.sharps", laid_hemiola_key_sharps), ("hemiola/key.signs", laid_hemiola_key_signs)] }
def KeyTonicsSaid : Prop := keyTonicsRow.holds Tryd.pinned (OpenSpec.ofChange keyTonicsSpec)

/-- ITS FALSE NEIGHBOUR: 'it returns false'. Refute it at one input. -/
def keyTonicsWrong : ChangeSpec := { name := "keyTonics", fn := fun _ => fun
  | [d1, d2, d3] => { results := [.lit (.bool false)], args := [d1, d2, d3] }
  | _ => none }
def KeyTonicsWrongFalsely : Prop := keyTonicsRow.holds Tryd.pinned (OpenSpec.ofChange keyTonicsWrong)

/-- 'hemiolalaw07.KeyScales': WHATEVER THE INPUT: true; the input reads as it did. -/
def keyScalesSpec : ChangeSpec := { name := "keyScales", fn := fun _ => fun
  | [d1, d2, d3] => { results := [.lit (.bool true)], args := [d1, d2, d3] }
  | _ => none }
def keyScalesRow : OpenClaim := { program := "ytdiokagnpiiijaadoor", sum := "637bc415a239ea0a829b40337d6885d1401e0e32078f10dddec63b3ce2b401fb", func := "hemiola/hemiolalaw07.KeyScales", spec := "keyScales", named := ["hemiola/key.sharps", "hemiola/key.signs"], apart := false, laid := [("hemiola/key.sharps", laid_hemiola_key_sharps), ("hemiola/key.signs", laid_hemiola_key_signs)] }
def KeyScalesSaid : Prop := keyScalesRow.holds Tryd.pinned (OpenSpec.ofChange keyScalesSpec)

/-- ITS FALSE NEIGHBOUR: 'it returns false'. Refute it at one input. -/
def keyScalesWrong : ChangeSpec := { name := "keyScales", fn := fun _ => fun
  | [d1, d2, d3] => { results := [.lit (.bool false)], args := [d1, d2, d3] }
  | _ => none }
def KeyScalesWrongFalsely : Prop := keyScalesRow.holds Tryd.pinned (OpenSpec.ofChange keyScalesWrong)

/-- 'hemiolalaw07.KeyNames': WHATEVER THE INPUT: true; the input reads as it did. -/
def keyNamesSpec : ChangeSpec := { name := "keyNames", fn := fun _ => fun
  | [d1, d2] => { results := [.lit (.bool true)], args := [d1, d2] }
  | _ => none }
def keyNamesRow : OpenClaim := { program := "ytdiokagnpiiijaadoor", sum := "637bc415a239ea0a829b40337d6885d1401e0e32078f10dddec63b3ce2b401fb", func := "hemiola/hemiolalaw07.KeyNames", spec := "keyNames", inPlace := ["internal/bytealg.IndexByteString", "internal/bytealg.IndexString"], named := ["hemiola/key.signs", "hemiola/key.sharps", "internal/bytealg.MaxLen"], apart := false, laid := [("hemiola/key.sharps", laid_hemiola_key_sharps), ("hemiola/key.signs", laid_hemiola_key_signs)] }
def KeyNamesSaid : Prop := keyNamesRow.holds Tryd.pinned (OpenSpec.ofChange keyNamesSpec)

/-- ITS FALSE NEIGHBOUR: 'it returns false'. Refute it at one input. -/
def keyNamesWrong : ChangeSpec := { name := "keyNames", fn := fun _ => fun
  | [d1, d2] => { results := [.lit (.bool false)], args := [d1, d2] }
  | _ => none }
def KeyNamesWrongFalsely : Prop := keyNamesRow.holds Tryd.pinned (OpenSpec.ofChange keyNamesWrong)

/-- 'hemiolalaw07.KeyParses': WHATEVER THE INPUT: true; the input reads as it did. -/
def keyParsesSpec : ChangeSpec := { name := "keyParses", fn := fun _ => fun
  | [d] => { results := [.lit (.bool true)], args := [d] }
  | _ => none }
def keyParsesRow : OpenClaim := { program := "ytdiokagnpiiijaadoor", sum := "637bc415a239ea0a829b40337d6885d1401e0e32078f10dddec63b3ce2b401fb", func := "hemiola/hemiolalaw07.KeyParses", spec := "keyParses", inPlace := ["internal/bytealg.IndexByteString", "internal/bytealg.IndexString"], named := ["internal/bytealg.MaxLen", "hemiola/key.signs", "hemiola/key.sharps"], apart := false, laid := [("hemiola/key.sharps", laid_hemiola_key_sharps), ("hemiola/key.signs", laid_hemiola_key_signs)] }
def KeyParsesSaid : Prop := keyParsesRow.holds Tryd.pinned (OpenSpec.ofChange keyParsesSpec)

/-- ITS FALSE NEIGHBOUR: 'it returns false'. Refute it at one input. -/
def keyParsesWrong : ChangeSpec := { name := "keyParses", fn := fun _ => fun
  | [d] => { results := [.lit (.bool false)], args := [d] }
  | _ => none }
def KeyParsesWrongFalsely : Prop := keyParsesRow.holds Tryd.pinned (OpenSpec.ofChange keyParsesWrong)

/-- 'hemiolalaw07.KeyTransposes': WHATEVER THE INPUT: true; the input reads as it did. -/
def keyTransposesSpec : ChangeSpec := { name := "keyTransposes", fn := fun _ => fun
  | [d1, d2] => { results := [.lit (.bool true)], args := [d1, d2] }
  | _ => none }
def keyTransposesRow : OpenClaim := { program := "ytdiokagnpiiijaadoor", sum := "637bc415a239ea0a829b40337d6885d1401e0e32078f10dddec63b3ce2b401fb", func := "hemiola/hemiolalaw07.KeyTransposes", spec := "keyTransposes", named := ["hemiola/key.sharps", "hemiola/key.signs"], apart := false, laid := [("hemiola/key.sharps", laid_hemiola_key_sharps), ("hemiola/key.signs", laid_hemiola_key_signs)] }
def KeyTransposesSaid : Prop := keyTransposesRow.holds Tryd.pinned (OpenSpec.ofChange keyTransposesSpec)

/-- ITS FALSE NEIGHBOUR: 'it returns false'. Refute it at one input. -/
def keyTransposesWrong : ChangeSpec := { name := "keyTransposes", fn := fun _ => fun
  | [d1, d2] => { results := [.lit (.bool false)], args := [d1, d2] }
  | _ => none }
def KeyTransposesWrongFalsely : Prop := keyTransposesRow.holds Tryd.pinned (OpenSpec.ofChange keyTransposesWrong)

/-- 'hemiolalaw07.KeySounds': WHATEVER THE INPUT: true; the input reads as it did. -/
def keySoundsSpec : ChangeSpec := { name := "keySounds", fn := fun _ => fun
  | [d1, d2] => { results := [.lit (.bool true)], args := [d1, d2] }
  | _ => none }
def keySoundsRow : OpenClaim := { program := "ytdiokagnpiiijaadoor", sum := "637bc415a239ea0a829b40337d6885d1401e0e32078f10dddec63b3ce2b401fb", func := "hemiola/hemiolalaw07.KeySounds", spec := "keySounds", named := ["hemiola/key.sharps", "hemiola/key.signs"], apart := false, laid := [("hemiola/key.sharps", laid_hemiola_key_sharps), ("hemiola/key.signs", laid_hemiola_key_signs)] }
def KeySoundsSaid : Prop := keySoundsRow.holds Tryd.pinned (OpenSpec.ofChange keySoundsSpec)

/-- ITS FALSE NEIGHBOUR: 'it returns false'. Refute it at one input. -/
def keySoundsWrong : ChangeSpec := { name := "keySounds", fn := fun _ => fun
  | [d1, d2] => { results := [.lit (.bool false)], args := [d1, d2] }
  | _ => none }
def KeySoundsWrongFalsely : Prop := keySoundsRow.holds Tryd.pinned (OpenSpec.ofChange keySoundsWrong)

/-- 'hemiolalaw07.KeyDegrees': WHATEVER THE INPUT: true; the input reads as it did. -/
def keyDegreesSpec : ChangeSpec := { name := "keyDegrees", fn := fun _ => fun
  | [d1, d2] => { results := [.lit (.bool true)], args := [d1, d2] }
  | _ => none }
def keyDegreesRow : OpenClaim := { program := "ytdiokagnpiiijaadoor", sum := "637bc415a239ea0a829b40337d6885d1401e0e32078f10dddec63b3ce2b401fb", func := "hemiola/hemiolalaw07.KeyDegrees", spec := "keyDegrees", named := ["hemiola/key.sharps", "hemiola/key.signs"], apart := false, laid := [("hemiola/key.sharps", laid_hemiola_key_sharps), ("hemiola/key.signs", laid_hemiola_key_signs)] }
def KeyDegreesSaid : Prop := keyDegreesRow.holds Tryd.pinned (OpenSpec.ofChange keyDegreesSpec)

/-- ITS FALSE NEIGHBOUR: 'it returns false'. Refute it at one input. -/
def keyDegreesWrong : ChangeSpec := { name := "keyDegrees", fn := fun _ => fun
  | [d1, d2] => { results := [.lit (.bool false)], args := [d1, d2] }
  | _ => none }
def KeyDegreesWrongFalsely : Prop := keyDegreesRow.holds Tryd.pinned (OpenSpec.ofChange keyDegreesWrong)

/-- 'hemiolalaw07.KeyDiatonic': WHATEVER THE INPUT: true; the input reads as it did. -/
def keyDiatonicSpec : ChangeSpec := { name := "keyDiatonic", fn := fun _ => fun
  | [d1, d2] => { results := [.lit (.bool true)], args := [d1, d2] }
  | _ => none }
def keyDiatonicRow : OpenClaim := { program := "ytdiokagnpiiijaadoor", sum := "637bc415a239ea0a829b40337d6885d1401e0e32078f10dddec63b3ce2b401fb", func := "hemiola/hemiolalaw07.KeyDiatonic", spec := "keyDiatonic", named := ["hemiola/key.sharps", "hemiola/key.signs"], apart := false, laid := [("hemiola/key.sharps", laid_hemiola_key_sharps), ("hemiola/key.signs", laid_hemiola_key_signs)] }
def KeyDiatonicSaid : Prop := keyDiatonicRow.holds Tryd.pinned (OpenSpec.ofChange keyDiatonicSpec)

/-- ITS FALSE NEIGHBOUR: 'it returns false'. Refute it at one input. -/
def keyDiatonicWrong : ChangeSpec := { name := "keyDiatonic", fn := fun _ => fun
  | [d1, d2] => { results := [.lit (.bool false)], args := [d1, d2] }
  | _ => none }
def KeyDiatonicWrongFalsely : Prop := keyDiatonicRow.holds Tryd.pinned (OpenSpec.ofChange keyDiatonicWrong)

/-- 'hemiolalaw07.KeyNaturals': WHATEVER THE INPUT: true; the input reads as it did. -/
def keyNaturalsSpec : ChangeSpec := { name := "keyNaturals", fn := fun _ => fun
  | [d1, d2] => { results := [.lit (.bool true)], args := [d1, d2] }
  | _ => none }
def keyNaturalsRow : OpenClaim := { program := "ytdiokagnpiiijaadoor", sum := "637bc415a239ea0a829b40337d6885d1401e0e32078f10dddec63b3ce2b401fb", func := "hemiola/hemiolalaw07.KeyNaturals", spec := "keyNaturals", unfollowed := true, recurses := true, named := ["hemiola/key.sharps", "hemiola/key.signs"], apart := false, laid := [("hemiola/key.sharps", laid_hemiola_key_sharps), ("hemiola/key.signs", laid_hemiola_key_signs)] }
def KeyNaturalsSaid : Prop := keyNaturalsRow.holds Tryd.pinned (OpenSpec.ofChange keyNaturalsSpec)

/-- ITS FALSE NEIGHBOUR: 'it returns false'. Refute it at one input. -/
def keyNaturalsWrong : ChangeSpec := { name := "keyNaturals", fn := fun _ => fun
  | [d1, d2] => { results := [.lit (.bool false)], args := [d1, d2] }
  | _ => none }
def KeyNaturalsWrongFalsely : Prop := keyNaturalsRow.holds Tryd.pinned (OpenSpec.ofChange keyNaturalsWrong)

/- THE SECOND FORM. 'bulk': how many values and letters a reading holds, each counted each time it is reached (what is shared counts as often as it is met; a slice's spare places count too). A statement '..UptoSaid' is the law's where the arguments, and the package variables that the reading takes, are together of bulk at most 1048576: NARROWER than '..Said'. Prove '..Said' where nothing that the law and all that it calls make is longer than what came in: it says more and counts as full. Else prove '..UptoSaid'. A law counts once. -/
mutual
def uptoBulk {H : Type} : DataW H → Nat
  | .lit (.string bytes) => bytes.length + 1
  | .lit _ => 1
  | .nil => 1
  | .ptr d => uptoBulk d + 1
  | .slice elems spare => uptoBulkAll elems + uptoBulkAll spare + 1
  | .agg parts => uptoBulkAll parts + 1
  | .iface _ d => uptoBulk d + 1
  | .map entries => uptoBulkEntries entries + 1
  | .held _ => 1
def uptoBulkAll {H : Type} : List (DataW H) → Nat
  | [] => 0
  | d :: r => uptoBulk d + uptoBulkAll r
def uptoBulkEntries {H : Type} : List (Lit × DataW H) → Nat
  | [] => 0
  | x :: r => uptoBulkEntry x + uptoBulkEntries r
def uptoBulkEntry {H : Type} : Lit × DataW H → Nat
  | (.string bytes, d) => bytes.length + uptoBulk d + 1
  | (_, d) => uptoBulk d + 1
 end
def uptoSmall : (H : Type) → List (DataW H) → Bool := fun _ ds => decide (uptoBulkAll ds ≤ 1048576)
def OpenSpec.upto (s : _root_.Go.ChangeSpec) : _root_.Go.OpenSpec := { _root_.Go.OpenSpec.ofChange s with cond := some uptoSmall }

/-- 'hemiolalaw07.KeyAlters', WHERE WHAT IT READS IS OF BULK AT MOST 1048576: true; the input reads as it did. -/
def keyAltersUptoRow : OpenClaim := { program := "ytdiokagnpiiijaadoor", sum := "637bc415a239ea0a829b40337d6885d1401e0e32078f10dddec63b3ce2b401fb", func := "hemiola/hemiolalaw07.KeyAlters", spec := "keyAlters", named := ["hemiola/key.sharps", "hemiola/key.signs"], apart := false, laid := [("hemiola/key.sharps", laid_hemiola_key_sharps), ("hemiola/key.signs", laid_hemiola_key_signs)], narrowed := true }
def KeyAltersUptoSaid : Prop := keyAltersUptoRow.holds Tryd.pinned (OpenSpec.upto keyAltersSpec)

/-- 'hemiolalaw07.KeyTonics', WHERE WHAT IT READS IS OF BULK AT MOST 1048576: true; the input reads as it did. -/
def keyTonicsUptoRow : OpenClaim := { program := "ytdiokagnpiiijaadoor", sum := "637bc415a239ea0a829b40337d6885d1401e0e32078f10dddec63b3ce2b401fb", func := "hemiola/hemiolalaw07.KeyTonics", spec := "keyTonics", named := ["hemiola/key.sharps", "hemiola/key.signs"], apart := false, laid := [("hemiola/key.sharps", laid_hemiola_key_sharps), ("hemiola/key.signs", laid_hemiola_key_signs)], narrowed := true }
def KeyTonicsUptoSaid : Prop := keyTonicsUptoRow.holds Tryd.pinned (OpenSpec.upto keyTonicsSpec)

/-- 'hemiolalaw07.KeyScales', WHERE WHAT IT READS IS OF BULK AT MOST 1048576: true; the input reads as it did. -/
def keyScalesUptoRow : OpenClaim := { program := "ytdiokagnpiiijaadoor", sum := "637bc415a239ea0a829b40337d6885d1401e0e32078f10dddec63b3ce2b401fb", func := "hemiola/hemiolalaw07.KeyScales", spec := "keyScales", named := ["hemiola/key.sharps", "hemiola/key.signs"], apart := false, laid := [("hemiola/key.sharps", laid_hemiola_key_sharps), ("hemiola/key.signs", laid_hemiola_key_signs)], narrowed := true }
def KeyScalesUptoSaid : Prop := keyScalesUptoRow.holds Tryd.pinned (OpenSpec.upto keyScalesSpec)

/-- 'hemiolalaw07.KeyNames', WHERE WHAT IT READS IS OF BULK AT MOST 1048576: true; the input reads as it did. -/
def keyNamesUptoRow : OpenClaim := { program := "ytdiokagnpiiijaadoor", sum := "637bc415a239ea0a829b40337d6885d1401e0e32078f10dddec63b3ce2b401fb", func := "hemiola/hemiolalaw07.KeyNames", spec := "keyNames", inPlace := ["internal/bytealg.IndexByteString", "internal/bytealg.IndexString"], named := ["hemiola/key.signs", "hemiola/key.sharps", "internal/bytealg.MaxLen"], apart := false, laid := [("hemiola/key.sharps", laid_hemiola_key_sharps), ("hemiola/key.signs", laid_hemiola_key_signs)], narrowed := true }
def KeyNamesUptoSaid : Prop := keyNamesUptoRow.holds Tryd.pinned (OpenSpec.upto keyNamesSpec)

/-- 'hemiolalaw07.KeyParses', WHERE WHAT IT READS IS OF BULK AT MOST 1048576: true; the input reads as it did. -/
def keyParsesUptoRow : OpenClaim := { program := "ytdiokagnpiiijaadoor", sum := "637bc415a239ea0a829b40337d6885d1401e0e32078f10dddec63b3ce2b401fb", func := "hemiola/hemiolalaw07.KeyParses", spec := "keyParses", inPlace := ["internal/bytealg.IndexByteString", "internal/bytealg.IndexString"], named := ["internal/bytealg.MaxLen", "hemiola/key.signs", "hemiola/key.sharps"], apart := false, laid := [("hemiola/key.sharps", laid_hemiola_key_sharps), ("hemiola/key.signs", laid_hemiola_key_signs)], narrowed := true }
def KeyParsesUptoSaid : Prop := keyParsesUptoRow.holds Tryd.pinned (OpenSpec.upto keyParsesSpec)

/-- 'hemiolalaw07.KeyTransposes', WHERE WHAT IT READS IS OF BULK AT MOST 1048576: true; the input reads as it did. -/
def keyTransposesUptoRow : OpenClaim := { program := "ytdiokagnpiiijaadoor", sum := "637bc415a239ea0a829b40337d6885d1401e0e32078f10dddec63b3ce2b401fb", func := "hemiola/hemiolalaw07.KeyTransposes", spec := "keyTransposes", named := ["hemiola/key.sharps", "hemiola/key.signs"], apart := false, laid := [("hemiola/key.sharps", laid_hemiola_key_sharps), ("hemiola/key.signs", laid_hemiola_key_signs)], narrowed := true }
def KeyTransposesUptoSaid : Prop := keyTransposesUptoRow.holds Tryd.pinned (OpenSpec.upto keyTransposesSpec)

/-- 'hemiolalaw07.KeySounds', WHERE WHAT IT READS IS OF BULK AT MOST 1048576: true; the input reads as it did. -/
def keySoundsUptoRow : OpenClaim := { program := "ytdiokagnpiiijaadoor", sum := "637bc415a239ea0a829b40337d6885d1401e0e32078f10dddec63b3ce2b401fb", func := "hemiola/hemiolalaw07.KeySounds", spec := "keySounds", named := ["hemiola/key.sharps", "hemiola/key.signs"], apart := false, laid := [("hemiola/key.sharps", laid_hemiola_key_sharps), ("hemiola/key.signs", laid_hemiola_key_signs)], narrowed := true }
def KeySoundsUptoSaid : Prop := keySoundsUptoRow.holds Tryd.pinned (OpenSpec.upto keySoundsSpec)

/-- 'hemiolalaw07.KeyDegrees', WHERE WHAT IT READS IS OF BULK AT MOST 1048576: true; the input reads as it did. -/
def keyDegreesUptoRow : OpenClaim := { program := "ytdiokagnpiiijaadoor", sum := "637bc415a239ea0a829b40337d6885d1401e0e32078f10dddec63b3ce2b401fb", func := "hemiola/hemiolalaw07.KeyDegrees", spec := "keyDegrees", named := ["hemiola/key.sharps", "hemiola/key.signs"], apart := false, laid := [("hemiola/key.sharps", laid_hemiola_key_sharps), ("hemiola/key.signs", laid_hemiola_key_signs)], narrowed := true }
def KeyDegreesUptoSaid : Prop := keyDegreesUptoRow.holds Tryd.pinned (OpenSpec.upto keyDegreesSpec)

/-- 'hemiolalaw07.KeyDiatonic', WHERE WHAT IT READS IS OF BULK AT MOST 1048576: true; the input reads as it did. -/
def keyDiatonicUptoRow : OpenClaim := { program := "ytdiokagnpiiijaadoor", sum := "637bc415a239ea0a829b40337d6885d1401e0e32078f10dddec63b3ce2b401fb", func := "hemiola/hemiolalaw07.KeyDiatonic", spec := "keyDiatonic", named := ["hemiola/key.sharps", "hemiola/key.signs"], apart := false, laid := [("hemiola/key.sharps", laid_hemiola_key_sharps), ("hemiola/key.signs", laid_hemiola_key_signs)], narrowed := true }
def KeyDiatonicUptoSaid : Prop := keyDiatonicUptoRow.holds Tryd.pinned (OpenSpec.upto keyDiatonicSpec)

/-- 'hemiolalaw07.KeyNaturals', WHERE WHAT IT READS IS OF BULK AT MOST 1048576: true; the input reads as it did. -/
def keyNaturalsUptoRow : OpenClaim := { program := "ytdiokagnpiiijaadoor", sum := "637bc415a239ea0a829b40337d6885d1401e0e32078f10dddec63b3ce2b401fb", func := "hemiola/hemiolalaw07.KeyNaturals", spec := "keyNaturals", unfollowed := true, recurses := true, named := ["hemiola/key.sharps", "hemiola/key.signs"], apart := false, laid := [("hemiola/key.sharps", laid_hemiola_key_sharps), ("hemiola/key.signs", laid_hemiola_key_signs)], narrowed := true }
def KeyNaturalsUptoSaid : Prop := keyNaturalsUptoRow.holds Tryd.pinned (OpenSpec.upto keyNaturalsSpec)

end Rows
end Go.Proofs.YtdiokagnpiiijaaDoor
