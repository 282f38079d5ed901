import Derived.Test.YtkooggakngheoaaDoorRows
import Derived.Test.YtkooggakngheoaaDoorCards
import Derived.Test.YtkooggakngheoaaDoorTie
import Derived.Test.YtkooggakngheoaaDoorKnown
import Derived.ProofKit
import Derived.LaidMore
import Derived.OpenShut
import Derived.Lay
import Derived.Stop.Joined
import Derived.Stop.LaidErr
import Derived.Lib.LaidTab
import Derived.LaidSub
/-! What the listed variables give; an argument that is a pitch or an interval: opened and shut. -/
namespace Go.Proofs.YtkooggakngheoaaDoor
open Go.ChangeShapes Go.WideShapes Go.ChangeAt Go.RowKit

abbrev laidL : List (String × DataW Unit) := [("math/bits.deBruijn32tab", Rows.laid_math_bits_deBruijn32tab), ("math/bits.deBruijn64tab", Rows.laid_math_bits_deBruijn64tab), ("internal/strconv.uint64pow10", Rows.laid_internal_strconv_uint64pow10), ("hemiola/pitch.heights", Rows.laid_hemiola_pitch_heights), ("hemiola/interval.families", Rows.laid_hemiola_interval_families)]
theorem own : ownKnob Tryd.prog.godebug = none := by kernel_rfl
theorem htsData : (Rows.laid_hemiola_pitch_heights : DataW Unit) = Lib.tabData .i64 [0, 2, 4, 5, 7, 9, 11] := by kernel_rfl
theorem famData : (Rows.laid_hemiola_interval_families : DataW Unit) = Lib.tabData .i64 [0, 1, 1, 0, 0, 1, 1] := by kernel_rfl
theorem gHts : Tryd.prog.globalNamed "hemiola/pitch.heights" = some 1 := by kernel_rfl
theorem gFam : Tryd.prog.globalNamed "hemiola/interval.families" = some 0 := by kernel_rfl

theorem of_filter {W : World} {n : String} {d : DataW Unit} {l : List (String × DataW Unit)} (h : laidMetH Tryd.prog l W) (e : l.filter (fun x => x.1 == n) = [(n, d)]) (hn : d.handleName?.isNone = true) : laidMet Tryd.prog [(n, d)] W := by
  have h1 := laidMetH.filter (fun x => x.1 == n) h
  rw [e, MakeChecks.laidMetH_plain _ _ _ (by simp [hn])] at h1
  exact h1

theorem hts_of {W : World} (h : laidMet Tryd.prog [("hemiola/pitch.heights", Rows.laid_hemiola_pitch_heights)] W) : Hts W := by
  rw [htsData] at h
  have k := Lib.tabIs_of_head gHts (by kernel_rfl) Tryd.underlying90 Tryd.underlying3 (by kernel_rfl) (by kernel_rfl) h
  exact ⟨k.cell gHts 0 (by decide), k.cell gHts 1 (by decide), k.cell gHts 2 (by decide), k.cell gHts 3 (by decide), k.cell gHts 4 (by decide), k.cell gHts 5 (by decide), k.cell gHts 6 (by decide)⟩
theorem fam_of {W : World} (h : laidMet Tryd.prog [("hemiola/interval.families", Rows.laid_hemiola_interval_families)] W) : Fam W := by
  rw [famData] at h
  have k := Lib.tabIs_of_head gFam (by kernel_rfl) Tryd.underlying90 Tryd.underlying3 (by kernel_rfl) (by kernel_rfl) h
  exact ⟨k.cell gFam 0 (by decide), k.cell gFam 1 (by decide), k.cell gFam 2 (by decide), k.cell gFam 3 (by decide), k.cell gFam 4 (by decide), k.cell gFam 5 (by decide), k.cell gFam 6 (by decide)⟩
theorem tab_of_laid {W : World} (h : laidMetH Tryd.prog laidL W) : Tab W :=
  ⟨hts_of (of_filter h rfl (by kernel_rfl)), fam_of (of_filter h rfl (by kernel_rfl))⟩

/-- A world that is laid so meets the condition. -/
theorem laid_met (os : Os) (args : Array Value) : laidMetH Tryd.prog laidL ((World.laidAll Tryd.prog os laidL).forCall (fun _ _ => 0) ⟨#[], args, []⟩).memory := by
  rw [MakeChecks.laidMetH_plain _ _ _ (by kernel_rfl)]; exact laidMet_laidAll _ (by kernel_rfl) (by kernel_rfl)
theorem shapedL (os : Os) : (World.laidAll Tryd.prog os laidL).Shaped Tryd.prog := World.shaped_of_ZipB (by kernel_rfl) (by kernel_rfl)

theorem pitchCells : Tryd.prog.cellsOf 41 = 3 := by kernel_rfl
theorem ivCells : Tryd.prog.cellsOf 23 = 2 := by kernel_rfl
theorem intCells : Tryd.prog.cellsOf 3 = 1 := by kernel_rfl
theorem three_of {α : Type} {cs : Array α} (h : cs.size = 3) : ∃ c0 c1 c2, cs = #[c0, c1, c2] := by
  obtain ⟨l⟩ := cs
  match l, h with
  | [c0, c1, c2], _ => exact ⟨c0, c1, c2, rfl⟩
theorem two_of {α : Type} {cs : Array α} (h : cs.size = 2) : ∃ c0 c1, cs = #[c0, c1] := by
  obtain ⟨l⟩ := cs
  match l, h with
  | [c0, c1], _ => exact ⟨c0, c1, rfl⟩

set_option maxRecDepth 100000 in
theorem open_pitch {H : Type} {enc : TypeId × Value → H} {W : World} {base b0 : Nat} {sp : Nat → Bool} {held : Bool} {v : Value} {d : DataW H} {p : List MemPlace}
    (hv : Value.okWide Tryd.prog W .any b0 41 v) (h : DataW.Trod enc Tryd.prog W base sp held 41 v d p) :
    ∃ a b c : Int, v = .agg #[.int .i64 a, .int .i64 b, .int .i64 c] ∧ d = .agg [.lit (.int .i64 a), .lit (.int .i64 b), .lit (.int .i64 c)] ∧ p = [] ∧ (Lit.int .i64 a).wf = true ∧ (Lit.int .i64 b).wf = true ∧ (Lit.int .i64 c).wf = true := by
  obtain ⟨cs, rfl, hs⟩ := okWide_struct Tryd.underlying41 hv
  obtain ⟨c0, c1, c2, rfl⟩ := three_of (hs.trans pitchCells)
  obtain ⟨fuel, hf⟩ := h
  obtain ⟨xs, n, _, ex, _, hl, hel⟩ := DataW.trod_struct Tryd.underlying41 (by simpa [Value.cells] using hf)
  have e0 : DataW.trod enc Tryd.prog W base sp held n 3 (([c0, c1, c2].drop 0).take (Tryd.prog.cellsOf 3)) = xs[0]? := hel 0 _ rfl
  have e1 : DataW.trod enc Tryd.prog W base sp held n 3 (([c0, c1, c2].drop 1).take (Tryd.prog.cellsOf 3)) = xs[1]? := hel 1 _ rfl
  have e2 : DataW.trod enc Tryd.prog W base sp held n 3 (([c0, c1, c2].drop 2).take (Tryd.prog.cellsOf 3)) = xs[2]? := hel 2 _ rfl
  rw [intCells] at e0 e1 e2
  match xs, hl with
  | [x0, x1, x2], _ =>
    obtain ⟨a, f0, ea, wa⟩ := DataW.trod_int Tryd.underlying3 e0
    obtain ⟨b, f1, eb, wb⟩ := DataW.trod_int Tryd.underlying3 e1
    obtain ⟨c, f2, ec, wc⟩ := DataW.trod_int Tryd.underlying3 e2
    simp at f0 f1 f2
    subst f0 f1 f2
    subst ea eb ec
    simp only [Prod.mk.injEq] at ex
    exact ⟨a, b, c, rfl, ex.1, by simpa using ex.2, wa, wb, wc⟩

set_option maxRecDepth 100000 in
theorem shut_pitch {H : Type} {enc : TypeId × Value → H} {W : World} {base : Nat} {sp : Nat → Bool} {held : Bool} {a b c : Int} (wa : (Lit.int .i64 a).wf = true) (wb : (Lit.int .i64 b).wf = true) (wc : (Lit.int .i64 c).wf = true) :
    DataW.Trod enc Tryd.prog W base sp held 41 (.agg #[.int .i64 a, .int .i64 b, .int .i64 c]) (.agg [.lit (.int .i64 a), .lit (.int .i64 b), .lit (.int .i64 c)]) [] := by
  refine ⟨2, ?_⟩
  unfold DataW.trod
  rw [Tryd.underlying41]
  simp [Value.cells, pitchCells, intCells, DataW.trod, Tryd.underlying3, wa, wb, wc]

set_option maxRecDepth 100000 in
theorem open_iv {H : Type} {enc : TypeId × Value → H} {W : World} {base b0 : Nat} {sp : Nat → Bool} {held : Bool} {v : Value} {d : DataW H} {p : List MemPlace}
    (hv : Value.okWide Tryd.prog W .any b0 23 v) (h : DataW.Trod enc Tryd.prog W base sp held 23 v d p) :
    ∃ a b : Int, v = .agg #[.int .i64 a, .int .i64 b] ∧ d = .agg [.lit (.int .i64 a), .lit (.int .i64 b)] ∧ p = [] ∧ (Lit.int .i64 a).wf = true ∧ (Lit.int .i64 b).wf = true := by
  obtain ⟨cs, rfl, hs⟩ := okWide_struct Tryd.underlying23 hv
  obtain ⟨c0, c1, rfl⟩ := two_of (hs.trans ivCells)
  obtain ⟨fuel, hf⟩ := h
  obtain ⟨xs, n, _, ex, _, hl, hel⟩ := DataW.trod_struct Tryd.underlying23 (by simpa [Value.cells] using hf)
  have e0 : DataW.trod enc Tryd.prog W base sp held n 3 (([c0, c1].drop 0).take (Tryd.prog.cellsOf 3)) = xs[0]? := hel 0 _ rfl
  have e1 : DataW.trod enc Tryd.prog W base sp held n 3 (([c0, c1].drop 1).take (Tryd.prog.cellsOf 3)) = xs[1]? := hel 1 _ rfl
  rw [intCells] at e0 e1
  match xs, hl with
  | [x0, x1], _ =>
    obtain ⟨a, f0, ea, wa⟩ := DataW.trod_int Tryd.underlying3 e0
    obtain ⟨b, f1, eb, wb⟩ := DataW.trod_int Tryd.underlying3 e1
    simp at f0 f1
    subst f0 f1
    subst ea eb
    simp only [Prod.mk.injEq] at ex
    exact ⟨a, b, rfl, ex.1, by simpa using ex.2, wa, wb⟩

set_option maxRecDepth 100000 in
theorem shut_iv {H : Type} {enc : TypeId × Value → H} {W : World} {base : Nat} {sp : Nat → Bool} {held : Bool} {a b : Int} (wa : (Lit.int .i64 a).wf = true) (wb : (Lit.int .i64 b).wf = true) :
    DataW.Trod enc Tryd.prog W base sp held 23 (.agg #[.int .i64 a, .int .i64 b]) (.agg [.lit (.int .i64 a), .lit (.int .i64 b)]) [] := by
  refine ⟨2, ?_⟩
  unfold DataW.trod
  rw [Tryd.underlying23]
  simp [Value.cells, ivCells, intCells, DataW.trod, Tryd.underlying3, wa, wb]

end Go.Proofs.YtkooggakngheoaaDoor
