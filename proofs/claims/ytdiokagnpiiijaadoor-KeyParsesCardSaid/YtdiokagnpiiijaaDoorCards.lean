/-
  DERIVED. GIVEN WITH THE SEED: THE CARDS: each row of YtdiokagnpiiijaaDoorRows.lean that lists a variable, with what it lists TIED to the program's text (the seventh form; the later family's looks); each row that meets fmt, with fmt's text TOLD by the authors' own Lean function (tested against real Go, not proved from fmt's source: count such statements apart). THE CARD IS WHAT COUNTS. Prove the row's statement (the work); the ties are given (YtdiokagnpiiijaaDoorTie.lean); close each card by the builder's one call (the guide's Derived/Test/ToyasCard.lean, 'card_holds'). Laid BY PROGRAM, IN A SANDBOX (cutbox-door.mjs). By AI agents, Wed Nov 11 2026. No macro, syntax, notation, axiom, sorry.
-/
import Derived.Test.YtdiokagnpiiijaaDoorRows
import GoSem.ClaimSeven
namespace Go.Proofs.YtdiokagnpiiijaaDoor
namespace Rows

/-- THE TIED CARD OF 'hemiolalaw07.KeyAlters'. -/
def keyAltersCard : Claim7 := { stood := { row := keyAltersRow, standIns := [], harness := (true, "2117eec5325c27370f2aa61ddd4a23a865e68bbc1d9bb0ef2c27e10075a20c79"), looks := false }, kinds := [], alts := [], laidByText := true, laidKinds := [.data, .data], laidTests := true, laidLooks := .later }
def KeyAltersCardSaid : Prop := Claim7.holds Tryd.pinned (.plain (OpenSpec.ofChange keyAltersSpec)) keyAltersCard

/-- THE TIED CARD OF 'hemiolalaw07.KeyTonics'. -/
def keyTonicsCard : Claim7 := { stood := { row := keyTonicsRow, standIns := [], harness := (true, "2117eec5325c27370f2aa61ddd4a23a865e68bbc1d9bb0ef2c27e10075a20c79"), looks := false }, kinds := [], alts := [], laidByText := true, laidKinds := [.data, .data], laidTests := true, laidLooks := .later }
def KeyTonicsCardSaid : Prop := Claim7.holds Tryd.pinned (.plain (OpenSpec.ofChange keyTonicsSpec)) keyTonicsCard

/-- THE TIED CARD OF 'hemiolalaw07.KeyScales'. -/
def keyScalesCard : Claim7 := { stood := { row := keyScalesRow, standIns := [], harness := (true, "2117eec5325c27370f2aa61ddd4a23a865e68bbc1d9bb0ef2c27e10075a20c79"), looks := false }, kinds := [], alts := [], laidByText := true, laidKinds := [.data, .data], laidTests := true, laidLooks := .later }
def KeyScalesCardSaid : Prop := Claim7.holds Tryd.pinned (.plain (OpenSpec.ofChange keyScalesSpec)) keyScalesCard

/-- THE TIED CARD OF 'hemiolalaw07.KeyNames'. -/
def keyNamesCard : Claim7 := { stood := { row := keyNamesRow, standIns := [], harness := (true, "2117eec5325c27370f2aa61ddd4a23a865e68bbc1d9bb0ef2c27e10075a20c79"), looks := false }, kinds := [], alts := [], laidByText := true, laidKinds := [.data, .data], laidTests := true, laidLooks := .later }
def KeyNamesCardSaid : Prop := Claim7.holds Tryd.pinned (.plain (OpenSpec.ofChange keyNamesSpec)) keyNamesCard

/-- THE TIED CARD OF 'hemiolalaw07.KeyParses'. -/
def keyParsesCard : Claim7 := { stood := { row := keyParsesRow, standIns := [], harness := (true, "2117eec5325c27370f2aa61ddd4a23a865e68bbc1d9bb0ef2c27e10075a20c79"), looks := false }, kinds := [], alts := [], laidByText := true, laidKinds := [.data, .data], laidTests := true, laidLooks := .later }
def KeyParsesCardSaid : Prop := Claim7.holds Tryd.pinned (.plain (OpenSpec.ofChange keyParsesSpec)) keyParsesCard

/-- THE TIED CARD OF 'hemiolalaw07.KeyTransposes'. -/
def keyTransposesCard : Claim7 := { stood := { row := keyTransposesRow, standIns := [], harness := (true, "2117eec5325c27370f2aa61ddd4a23a865e68bbc1d9bb0ef2c27e10075a20c79"), looks := false }, kinds := [], alts := [], laidByText := true, laidKinds := [.data, .data], laidTests := true, laidLooks := .later }
def KeyTransposesCardSaid : Prop := Claim7.holds Tryd.pinned (.plain (OpenSpec.ofChange keyTransposesSpec)) keyTransposesCard

/-- THE TIED CARD OF 'hemiolalaw07.KeySounds'. -/
def keySoundsCard : Claim7 := { stood := { row := keySoundsRow, standIns := [], harness := (true, "2117eec5325c27370f2aa61ddd4a23a865e68bbc1d9bb0ef2c27e10075a20c79"), looks := false }, kinds := [], alts := [], laidByText := true, laidKinds := [.data, .data], laidTests := true, laidLooks := .later }
def KeySoundsCardSaid : Prop := Claim7.holds Tryd.pinned (.plain (OpenSpec.ofChange keySoundsSpec)) keySoundsCard

/-- THE TIED CARD OF 'hemiolalaw07.KeyDegrees'. -/
def keyDegreesCard : Claim7 := { stood := { row := keyDegreesRow, standIns := [], harness := (true, "2117eec5325c27370f2aa61ddd4a23a865e68bbc1d9bb0ef2c27e10075a20c79"), looks := false }, kinds := [], alts := [], laidByText := true, laidKinds := [.data, .data], laidTests := true, laidLooks := .later }
def KeyDegreesCardSaid : Prop := Claim7.holds Tryd.pinned (.plain (OpenSpec.ofChange keyDegreesSpec)) keyDegreesCard

/-- THE TIED CARD OF 'hemiolalaw07.KeyDiatonic'. -/
def keyDiatonicCard : Claim7 := { stood := { row := keyDiatonicRow, standIns := [], harness := (true, "2117eec5325c27370f2aa61ddd4a23a865e68bbc1d9bb0ef2c27e10075a20c79"), looks := false }, kinds := [], alts := [], laidByText := true, laidKinds := [.data, .data], laidTests := true, laidLooks := .later }
def KeyDiatonicCardSaid : Prop := Claim7.holds Tryd.pinned (.plain (OpenSpec.ofChange keyDiatonicSpec)) keyDiatonicCard

/-- THE TIED CARD OF 'hemiolalaw07.KeyNaturals'. -/
def keyNaturalsCard : Claim7 := { stood := { row := keyNaturalsRow, standIns := [], harness := (true, "2117eec5325c27370f2aa61ddd4a23a865e68bbc1d9bb0ef2c27e10075a20c79"), looks := false }, kinds := [], alts := [], laidByText := true, laidKinds := [.data, .data], laidTests := true, laidLooks := .later }
def KeyNaturalsCardSaid : Prop := Claim7.holds Tryd.pinned (.plain (OpenSpec.ofChange keyNaturalsSpec)) keyNaturalsCard

/-- THE SECOND FORM's CARD OF 'hemiolalaw07.KeyAlters'. -/
def keyAltersUptoCard : Claim7 := { stood := { row := keyAltersUptoRow, standIns := [], harness := (true, "2117eec5325c27370f2aa61ddd4a23a865e68bbc1d9bb0ef2c27e10075a20c79"), looks := false }, kinds := [], alts := [], laidByText := true, laidKinds := [.data, .data], laidTests := true, laidLooks := .later }
def KeyAltersUptoCardSaid : Prop := Claim7.holds Tryd.pinned (.plain (OpenSpec.upto keyAltersSpec)) keyAltersUptoCard

/-- THE SECOND FORM's CARD OF 'hemiolalaw07.KeyTonics'. -/
def keyTonicsUptoCard : Claim7 := { stood := { row := keyTonicsUptoRow, standIns := [], harness := (true, "2117eec5325c27370f2aa61ddd4a23a865e68bbc1d9bb0ef2c27e10075a20c79"), looks := false }, kinds := [], alts := [], laidByText := true, laidKinds := [.data, .data], laidTests := true, laidLooks := .later }
def KeyTonicsUptoCardSaid : Prop := Claim7.holds Tryd.pinned (.plain (OpenSpec.upto keyTonicsSpec)) keyTonicsUptoCard

/-- THE SECOND FORM's CARD OF 'hemiolalaw07.KeyScales'. -/
def keyScalesUptoCard : Claim7 := { stood := { row := keyScalesUptoRow, standIns := [], harness := (true, "2117eec5325c27370f2aa61ddd4a23a865e68bbc1d9bb0ef2c27e10075a20c79"), looks := false }, kinds := [], alts := [], laidByText := true, laidKinds := [.data, .data], laidTests := true, laidLooks := .later }
def KeyScalesUptoCardSaid : Prop := Claim7.holds Tryd.pinned (.plain (OpenSpec.upto keyScalesSpec)) keyScalesUptoCard

/-- THE SECOND FORM's CARD OF 'hemiolalaw07.KeyNames'. -/
def keyNamesUptoCard : Claim7 := { stood := { row := keyNamesUptoRow, standIns := [], harness := (true, "2117eec5325c27370f2aa61ddd4a23a865e68bbc1d9bb0ef2c27e10075a20c79"), looks := false }, kinds := [], alts := [], laidByText := true, laidKinds := [.data, .data], laidTests := true, laidLooks := .later }
def KeyNamesUptoCardSaid : Prop := Claim7.holds Tryd.pinned (.plain (OpenSpec.upto keyNamesSpec)) keyNamesUptoCard

/-- THE SECOND FORM's CARD OF 'hemiolalaw07.KeyParses'. -/
def keyParsesUptoCard : Claim7 := { stood := { row := keyParsesUptoRow, standIns := [], harness := (true, "2117eec5325c27370f2aa61ddd4a23a865e68bbc1d9bb0ef2c27e10075a20c79"), looks := false }, kinds := [], alts := [], laidByText := true, laidKinds := [.data, .data], laidTests := true, laidLooks := .later }
def KeyParsesUptoCardSaid : Prop := Claim7.holds Tryd.pinned (.plain (OpenSpec.upto keyParsesSpec)) keyParsesUptoCard

/-- THE SECOND FORM's CARD OF 'hemiolalaw07.KeyTransposes'. -/
def keyTransposesUptoCard : Claim7 := { stood := { row := keyTransposesUptoRow, standIns := [], harness := (true, "2117eec5325c27370f2aa61ddd4a23a865e68bbc1d9bb0ef2c27e10075a20c79"), looks := false }, kinds := [], alts := [], laidByText := true, laidKinds := [.data, .data], laidTests := true, laidLooks := .later }
def KeyTransposesUptoCardSaid : Prop := Claim7.holds Tryd.pinned (.plain (OpenSpec.upto keyTransposesSpec)) keyTransposesUptoCard

/-- THE SECOND FORM's CARD OF 'hemiolalaw07.KeySounds'. -/
def keySoundsUptoCard : Claim7 := { stood := { row := keySoundsUptoRow, standIns := [], harness := (true, "2117eec5325c27370f2aa61ddd4a23a865e68bbc1d9bb0ef2c27e10075a20c79"), looks := false }, kinds := [], alts := [], laidByText := true, laidKinds := [.data, .data], laidTests := true, laidLooks := .later }
def KeySoundsUptoCardSaid : Prop := Claim7.holds Tryd.pinned (.plain (OpenSpec.upto keySoundsSpec)) keySoundsUptoCard

/-- THE SECOND FORM's CARD OF 'hemiolalaw07.KeyDegrees'. -/
def keyDegreesUptoCard : Claim7 := { stood := { row := keyDegreesUptoRow, standIns := [], harness := (true, "2117eec5325c27370f2aa61ddd4a23a865e68bbc1d9bb0ef2c27e10075a20c79"), looks := false }, kinds := [], alts := [], laidByText := true, laidKinds := [.data, .data], laidTests := true, laidLooks := .later }
def KeyDegreesUptoCardSaid : Prop := Claim7.holds Tryd.pinned (.plain (OpenSpec.upto keyDegreesSpec)) keyDegreesUptoCard

/-- THE SECOND FORM's CARD OF 'hemiolalaw07.KeyDiatonic'. -/
def keyDiatonicUptoCard : Claim7 := { stood := { row := keyDiatonicUptoRow, standIns := [], harness := (true, "2117eec5325c27370f2aa61ddd4a23a865e68bbc1d9bb0ef2c27e10075a20c79"), looks := false }, kinds := [], alts := [], laidByText := true, laidKinds := [.data, .data], laidTests := true, laidLooks := .later }
def KeyDiatonicUptoCardSaid : Prop := Claim7.holds Tryd.pinned (.plain (OpenSpec.upto keyDiatonicSpec)) keyDiatonicUptoCard

/-- THE SECOND FORM's CARD OF 'hemiolalaw07.KeyNaturals'. -/
def keyNaturalsUptoCard : Claim7 := { stood := { row := keyNaturalsUptoRow, standIns := [], harness := (true, "2117eec5325c27370f2aa61ddd4a23a865e68bbc1d9bb0ef2c27e10075a20c79"), looks := false }, kinds := [], alts := [], laidByText := true, laidKinds := [.data, .data], laidTests := true, laidLooks := .later }
def KeyNaturalsUptoCardSaid : Prop := Claim7.holds Tryd.pinned (.plain (OpenSpec.upto keyNaturalsSpec)) keyNaturalsUptoCard
end Rows
end Go.Proofs.YtdiokagnpiiijaaDoor
