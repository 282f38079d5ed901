import Derived.Test.YtipamoakeccecaaDoorRows
import Derived.Test.YtipamoakeccecaaDoorCards
import Derived.Test.YtipamoakeccecaaDoorTie
import Derived.Test.YtipamoakeccecaaDoorKnown
import Derived.ProofKit
import Derived.LaidMore
import Derived.OpenShut
import Derived.Lay
import Derived.Stop.Joined
import Derived.Stop.LaidErr
import Derived.Lib.LaidTab
import Derived.LaidSub
/-! What the listed variables give; an argument that is a pitch: opened and shut. -/
namespace Go.Proofs.YtipamoakeccecaaDoor
open Go.ChangeShapes Go.WideShapes Go.ChangeAt Go.RowKit

abbrev laidL : List (String × DataW Unit) := [("math/bits.deBruijn32tab", Rows.laid_math_bits_deBruijn32tab), ("math/bits.deBruijn64tab", Rows.laid_math_bits_deBruijn64tab), ("internal/strconv.uint64pow10", Rows.laid_internal_strconv_uint64pow10), ("unicode/utf8.acceptRanges", Rows.laid_unicode_utf8_acceptRanges), ("strconv.ErrRange", Rows.laid_strconv_ErrRange), ("strconv.ErrSyntax", Rows.laid_strconv_ErrSyntax), ("hemiola/pitch.heights", Rows.laid_hemiola_pitch_heights), ("hemiola/pitch.signs", Rows.laid_hemiola_pitch_signs), ("unicode/utf8.first", Rows.laid_unicode_utf8_first)]

theorem own : ownKnob Tryd.prog.godebug = none := by kernel_rfl

theorem powData : (Rows.laid_internal_strconv_uint64pow10 : DataW Unit) = Lib.tabData .u64 Lib.pow10Tab := by kernel_rfl
theorem htsData : (Rows.laid_hemiola_pitch_heights : DataW Unit) = Lib.tabData .i64 [0, 2, 4, 5, 7, 9, 11] := by kernel_rfl
theorem gPow : Tryd.prog.globalNamed "internal/strconv.uint64pow10" = some 5 := by kernel_rfl
theorem gHts : Tryd.prog.globalNamed "hemiola/pitch.heights" = some 1 := by kernel_rfl
theorem gSgn : Tryd.prog.globalNamed "hemiola/pitch.signs" = some 0 := by kernel_rfl
theorem gESy : Tryd.prog.globalNamed "strconv.ErrSyntax" = some 3 := by kernel_rfl
theorem gERg : Tryd.prog.globalNamed "strconv.ErrRange" = some 4 := by kernel_rfl

/-- an array of strings that reads as a list of texts -/
theorem cells_of_strs {H : Type} {enc : TypeId × Value → H} {P : Program} {w : World} {base : Nat} {sp : Nat → Bool} {held : Bool} {fuel : Nat} {t e : TypeId} {n : Nat} {cs : List Value} {zs : List (List UInt8)} {p : List MemPlace}
    (ht : P.underlying t = some (.array n e)) (he : P.underlying e = some .string) (hce : P.cellsOf e = 1)
    (h : DataW.trod enc P w base sp held fuel t cs = some (.agg (zs.map fun z => .lit (.string z)), p)) : ∀ (i : Nat) (z : List UInt8), zs[i]? = some z → cs[i]? = some (.string ⟨z.toArray⟩) := by
  obtain ⟨xs, m, _, ex, _, hl, hel⟩ := DataW.trod_array ht h
  intro i z hz
  have hxs : xs.map (·.1) = zs.map fun z => (DataW.lit (.string z) : DataW H) := (DataW.agg.inj (Prod.mk.inj ex).1).symm
  have hi : i < n := by
    have h1 : i < zs.length := (List.getElem?_eq_some_iff.1 hz).1
    have h2 := congrArg List.length hxs
    simp at h2
    omega
  have hE := hel i hi
  rw [hce, Nat.mul_one, List.getElem?_eq_getElem (by omega)] at hE
  obtain ⟨s, e1, e2, _⟩ := DataW.trod_string he hE
  have e4 : (xs.map (·.1))[i]? = (zs.map fun z => (DataW.lit (.string z) : DataW H))[i]? := by rw [hxs]
  rw [List.getElem?_map, List.getElem?_map, List.getElem?_eq_getElem (by omega : i < xs.length), hz, e2] at e4
  simp only [Option.map_some, Option.some.injEq, DataW.lit.injEq, Lit.string.injEq] at e4
  have h0 : ((cs.drop i).take 1)[0]? = some (.string s) := by rw [e1]; rfl
  have h1 : cs[i]? = some (.string s) := by simpa using h0
  rw [h1, ← e4]

theorem of_filter {W : World} {n : String} {d : DataW Unit} {l : List (String × DataW Unit)} (h : laidMetH Tryd.prog l W) (e : l.filter (fun x => x.1 == n) = [(n, d)]) (hn : d.handleName?.isNone = true) : laidMet Tryd.prog [(n, d)] W := by
  have h1 := laidMetH.filter (fun x => x.1 == n) h
  rw [e, MakeChecks.laidMetH_plain _ _ _ (by simp [hn])] at h1
  exact h1

theorem hts_of {W : World} (h : laidMet Tryd.prog [("hemiola/pitch.heights", Rows.laid_hemiola_pitch_heights)] W) : Hts W := by
  rw [htsData] at h
  have k := Lib.tabIs_of_head gHts (by kernel_rfl) Tryd.underlying61 Tryd.underlying3 (by kernel_rfl) (by kernel_rfl) h
  exact ⟨k.cell gHts 0 (by decide), k.cell gHts 1 (by decide), k.cell gHts 2 (by decide), k.cell gHts 3 (by decide), k.cell gHts 4 (by decide), k.cell gHts 5 (by decide), k.cell gHts 6 (by decide)⟩
theorem sgn_of {W : World} (h : laidMet Tryd.prog [("hemiola/pitch.signs", Rows.laid_hemiola_pitch_signs)] W) : Sgn W := by
  obtain ⟨ps, ⟨g, t, cs, fuel, p, q, hg, ht, hv, hd, _, _⟩, _, _⟩ := h
  obtain rfl := Option.some.inj (gSgn.symm.trans hg)
  obtain rfl := Option.some.inj ((show (Tryd.prog.globals[0]?).map (·.type) = some 58 by kernel_rfl).symm.trans ht)
  have k := cells_of_strs (zs := [[98, 98], [98], [], [35], [35, 35]]) Tryd.underlying58 Tryd.underlying9 (by kernel_rfl) hd
  have c : ∀ (i : Nat) (z : List UInt8), ([[98, 98], [98], [], [35], [35, 35]] : List (List UInt8))[i]? = some z → W.cell? ⟨0, i, none⟩ = some (.string ⟨z.toArray⟩) := by
    intro i z hz
    rw [World.var?_cell gSgn hv i]
    have := k i z hz
    simpa using this
  exact ⟨c 0 _ rfl, c 1 _ rfl, c 2 _ rfl, c 3 _ rfl, c 4 _ rfl⟩
theorem star : "*" ++ "errors.errorString" = "*errors.errorString" := by decide
theorem rowStar (u : TypeId) (h : Tryd.prog.typeName? 3 u = some "*errors.errorString") : u = 116 :=
  typeName_ptr_named (nm := "errors.errorString") (by rw [star]; kernel_rfl) (by kernel_rfl) (by decide) u (by rw [star]; exact h)
theorem esy_of {W : World} (h : laidMet Tryd.prog [("strconv.ErrSyntax", Rows.laid_strconv_ErrSyntax)] W) : ∃ tp p, W.var? Tryd.prog "strconv.ErrSyntax" = some #[.iface tp p] := by
  obtain ⟨a0, s0, hv0, -, -, -⟩ := laid_sentinel h gESy (show (Tryd.prog.globals[3]?).map (·.type) = some 65 by kernel_rfl) Tryd.underlying65 rowStar Tryd.underlying116 Tryd.underlying118 rfl rfl Tryd.underlying9 (by kernel_rfl) (by kernel_rfl)
  exact ⟨_, _, hv0⟩
theorem erg_of {W : World} (h : laidMet Tryd.prog [("strconv.ErrRange", Rows.laid_strconv_ErrRange)] W) : ∃ tp p, W.var? Tryd.prog "strconv.ErrRange" = some #[.iface tp p] := by
  obtain ⟨a0, s0, hv0, -, -, -⟩ := laid_sentinel h gERg (show (Tryd.prog.globals[4]?).map (·.type) = some 65 by kernel_rfl) Tryd.underlying65 rowStar Tryd.underlying116 Tryd.underlying118 rfl rfl Tryd.underlying9 (by kernel_rfl) (by kernel_rfl)
  exact ⟨_, _, hv0⟩

theorem tab_of_laid {W : World} (h : laidMetH Tryd.prog laidL W) : Tab W := by
  have hp := of_filter (n := "internal/strconv.uint64pow10") h rfl (by kernel_rfl)
  rw [powData] at hp
  exact ⟨Lib.tabIs_of_head gPow (by kernel_rfl) Tryd.underlying103 Tryd.underlying89 (by kernel_rfl) (by kernel_rfl) hp,
    esy_of (of_filter h rfl (by kernel_rfl)), erg_of (of_filter h rfl (by kernel_rfl)), hts_of (of_filter h rfl (by kernel_rfl)), sgn_of (of_filter h rfl (by kernel_rfl))⟩
/-- A world that is laid so meets the condition. -/
theorem laid_met (os : Os) (args : Array Value) : laidMetH Tryd.prog laidL ((World.laidAll Tryd.prog os laidL).forCall (fun _ _ => 0) ⟨#[], args, []⟩).memory := by
  rw [MakeChecks.laidMetH_plain _ _ _ (by kernel_rfl)]; exact laidMet_laidAll _ (by kernel_rfl) (by kernel_rfl)
theorem shapedL (os : Os) : (World.laidAll Tryd.prog os laidL).Shaped Tryd.prog := World.shaped_of_ZipB (by kernel_rfl) (by kernel_rfl)
end Go.Proofs.YtipamoakeccecaaDoor
