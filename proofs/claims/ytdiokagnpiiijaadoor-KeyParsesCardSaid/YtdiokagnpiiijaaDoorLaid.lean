import Derived.Test.YtdiokagnpiiijaaDoorRows
import Derived.Test.YtdiokagnpiiijaaDoorCards
import Derived.Test.YtdiokagnpiiijaaDoorTie
import Derived.Test.YtdiokagnpiiijaaDoorBase
import Derived.ProofKit
import Derived.LaidMore
import Derived.OpenShut
import Derived.Lay
import Derived.Stop.Joined
import Derived.Stop.LaidErr
import Derived.Lib.LaidTab
import Derived.LaidSub
import Derived.Laws.IdiomArrays
/-! What the listed variables give; arguments that are pitches, intervals, pairs: opened and shut. -/
namespace Go.Proofs.YtdiokagnpiiijaaDoor
open Go.ChangeShapes Go.WideShapes Go.ChangeAt Go.RowKit

abbrev laidL : List (String × DataW Unit) := [("hemiola/key.sharps", Rows.laid_hemiola_key_sharps), ("hemiola/key.signs", Rows.laid_hemiola_key_signs)]
theorem own : ownKnob Tryd.prog.godebug = none := by kernel_rfl
theorem shData : (Rows.laid_hemiola_key_sharps : DataW Unit) = Lib.tabData .i64 [3, 0, 4, 1, 5, 2, 6] := by kernel_rfl
theorem gSh : Tryd.prog.globalNamed "hemiola/key.sharps" = some 0 := by kernel_rfl
theorem gSg : Tryd.prog.globalNamed "hemiola/key.signs" = some 1 := by kernel_rfl

/-- an array of strings that reads as a list of texts -/
theorem cells_of_strs {H : Type} {enc : TypeId × Value → H} {P : Program} {w : World} {base : Nat} {sp : Nat → Bool} {held : Bool} {fuel : Nat} {t e : TypeId} {n : Nat} {cs : List Value} {zs : List (List UInt8)} {p : List MemPlace}
    (ht : P.underlying t = some (.array n e)) (he : P.underlying e = some .string) (hce : P.cellsOf e = 1)
    (h : DataW.trod enc P w base sp held fuel t cs = some (.agg (zs.map fun z => .lit (.string z)), p)) : ∀ (i : Nat) (z : List UInt8), zs[i]? = some z → cs[i]? = some (.string ⟨z.toArray⟩) := by
  obtain ⟨xs, m, _, ex, _, hl, hel⟩ := DataW.trod_array ht h
  intro i z hz
  have hxs : xs.map (·.1) = zs.map fun z => (DataW.lit (.string z) : DataW H) := (DataW.agg.inj (Prod.mk.inj ex).1).symm
  have hi : i < n := by
    have h1 : i < zs.length := (List.getElem?_eq_some_iff.1 hz).1
    have h2 := congrArg List.length hxs
    simp at h2
    omega
  have hE := hel i hi
  rw [hce, Nat.mul_one, List.getElem?_eq_getElem (by omega)] at hE
  obtain ⟨s, e1, e2, _⟩ := DataW.trod_string he hE
  have e4 : (xs.map (·.1))[i]? = (zs.map fun z => (DataW.lit (.string z) : DataW H))[i]? := by rw [hxs]
  rw [List.getElem?_map, List.getElem?_map, List.getElem?_eq_getElem (by omega : i < xs.length), hz, e2] at e4
  simp only [Option.map_some, Option.some.injEq, DataW.lit.injEq, Lit.string.injEq] at e4
  have h0 : ((cs.drop i).take 1)[0]? = some (.string s) := by rw [e1]; rfl
  have h1 : cs[i]? = some (.string s) := by simpa using h0
  rw [h1, ← e4]

theorem of_filter {W : World} {n : String} {d : DataW Unit} {l : List (String × DataW Unit)} (h : laidMetH Tryd.prog l W) (e : l.filter (fun x => x.1 == n) = [(n, d)]) (hn : d.handleName?.isNone = true) : laidMet Tryd.prog [(n, d)] W := by
  have h1 := laidMetH.filter (fun x => x.1 == n) h
  rw [e, MakeChecks.laidMetH_plain _ _ _ (by simp [hn])] at h1
  exact h1

theorem tab_of_laid {W : World} (h : laidMetH Tryd.prog laidL W) : Tab W := by
  have hs := of_filter (n := "hemiola/key.sharps") h rfl (by kernel_rfl)
  rw [shData] at hs
  have k := Lib.tabIs_of_head gSh (by kernel_rfl) Tryd.underlying72 Tryd.underlying3 (by kernel_rfl) (by kernel_rfl) hs
  obtain ⟨ps, ⟨g, t, cs, fuel, p, q, hg, ht, hv, hd, _, _⟩, _, _⟩ := of_filter (n := "hemiola/key.signs") h rfl (by kernel_rfl)
  obtain rfl := Option.some.inj (gSg.symm.trans hg)
  obtain rfl := Option.some.inj ((show (Tryd.prog.globals[1]?).map (·.type) = some 76 by kernel_rfl).symm.trans ht)
  have k2 := cells_of_strs (zs := [[98], [], [35]]) Tryd.underlying76 Tryd.underlying9 (by kernel_rfl) hd
  have c : ∀ (i : Nat) (z : List UInt8), ([[98], [], [35]] : List (List UInt8))[i]? = some z → W.cell? ⟨1, i, none⟩ = some (.string ⟨z.toArray⟩) := by
    intro i z hz
    rw [World.var?_cell gSg hv i]
    have := k2 i z hz
    simpa using this
  exact ⟨k.cell gSh 0 (by decide), k.cell gSh 1 (by decide), k.cell gSh 2 (by decide), k.cell gSh 3 (by decide), k.cell gSh 4 (by decide), k.cell gSh 5 (by decide), k.cell gSh 6 (by decide), c 0 _ rfl, c 1 _ rfl, c 2 _ rfl⟩

/-- A world that is laid so meets the condition. -/
theorem laid_met (os : Os) (args : Array Value) : laidMetH Tryd.prog laidL ((World.laidAll Tryd.prog os laidL).forCall (fun _ _ => 0) ⟨#[], args, []⟩).memory := by
  rw [MakeChecks.laidMetH_plain _ _ _ (by kernel_rfl)]; exact laidMet_laidAll _ (by kernel_rfl) (by kernel_rfl)
theorem shapedL (os : Os) : (World.laidAll Tryd.prog os laidL).Shaped Tryd.prog := World.shaped_of_ZipB (by kernel_rfl) (by kernel_rfl)

theorem pitchCells : Tryd.prog.cellsOf 51 = 3 := by kernel_rfl
theorem ivCells : Tryd.prog.cellsOf 62 = 2 := by kernel_rfl
theorem intCells : Tryd.prog.cellsOf 3 = 1 := by kernel_rfl
theorem three_of {α : Type} {cs : Array α} (h : cs.size = 3) : ∃ c0 c1 c2, cs = #[c0, c1, c2] := by
  obtain ⟨l⟩ := cs
  match l, h with
  | [c0, c1, c2], _ => exact ⟨c0, c1, c2, rfl⟩
theorem two_of {α : Type} {cs : Array α} (h : cs.size = 2) : ∃ c0 c1, cs = #[c0, c1] := by
  obtain ⟨l⟩ := cs
  match l, h with
  | [c0, c1], _ => exact ⟨c0, c1, rfl⟩

set_option maxRecDepth 100000 in
theorem open_pitch {H : Type} {enc : TypeId × Value → H} {W : World} {base b0 : Nat} {sp : Nat → Bool} {held : Bool} {v : Value} {d : DataW H} {p : List MemPlace}
    (hv : Value.okWide Tryd.prog W .any b0 51 v) (h : DataW.Trod enc Tryd.prog W base sp held 51 v d p) :
    ∃ a b c : Int, v = .agg #[.int .i64 a, .int .i64 b, .int .i64 c] ∧ d = .agg [.lit (.int .i64 a), .lit (.int .i64 b), .lit (.int .i64 c)] ∧ p = [] ∧ (Lit.int .i64 a).wf = true ∧ (Lit.int .i64 b).wf = true ∧ (Lit.int .i64 c).wf = true := by
  obtain ⟨cs, rfl, hs⟩ := okWide_struct Tryd.underlying51 hv
  obtain ⟨c0, c1, c2, rfl⟩ := three_of (hs.trans pitchCells)
  obtain ⟨fuel, hf⟩ := h
  obtain ⟨xs, n, _, ex, _, hl, hel⟩ := DataW.trod_struct Tryd.underlying51 (by simpa [Value.cells] using hf)
  have e0 : DataW.trod enc Tryd.prog W base sp held n 3 (([c0, c1, c2].drop 0).take (Tryd.prog.cellsOf 3)) = xs[0]? := hel 0 _ rfl
  have e1 : DataW.trod enc Tryd.prog W base sp held n 3 (([c0, c1, c2].drop 1).take (Tryd.prog.cellsOf 3)) = xs[1]? := hel 1 _ rfl
  have e2 : DataW.trod enc Tryd.prog W base sp held n 3 (([c0, c1, c2].drop 2).take (Tryd.prog.cellsOf 3)) = xs[2]? := hel 2 _ rfl
  rw [intCells] at e0 e1 e2
  match xs, hl with
  | [x0, x1, x2], _ =>
    obtain ⟨a, f0, ea, wa⟩ := DataW.trod_int Tryd.underlying3 e0
    obtain ⟨b, f1, eb, wb⟩ := DataW.trod_int Tryd.underlying3 e1
    obtain ⟨c, f2, ec, wc⟩ := DataW.trod_int Tryd.underlying3 e2
    simp at f0 f1 f2
    subst f0 f1 f2
    subst ea eb ec
    simp only [Prod.mk.injEq] at ex
    exact ⟨a, b, c, rfl, ex.1, by simpa using ex.2, wa, wb, wc⟩

set_option maxRecDepth 100000 in
theorem shut_pitch {H : Type} {enc : TypeId × Value → H} {W : World} {base : Nat} {sp : Nat → Bool} {held : Bool} {a b c : Int} (wa : (Lit.int .i64 a).wf = true) (wb : (Lit.int .i64 b).wf = true) (wc : (Lit.int .i64 c).wf = true) :
    DataW.Trod enc Tryd.prog W base sp held 51 (.agg #[.int .i64 a, .int .i64 b, .int .i64 c]) (.agg [.lit (.int .i64 a), .lit (.int .i64 b), .lit (.int .i64 c)]) [] := by
  refine ⟨2, ?_⟩
  unfold DataW.trod
  rw [Tryd.underlying51]
  simp [Value.cells, pitchCells, intCells, DataW.trod, Tryd.underlying3, wa, wb, wc]

set_option maxRecDepth 100000 in
theorem open_iv {H : Type} {enc : TypeId × Value → H} {W : World} {base b0 : Nat} {sp : Nat → Bool} {held : Bool} {v : Value} {d : DataW H} {p : List MemPlace}
    (hv : Value.okWide Tryd.prog W .any b0 62 v) (h : DataW.Trod enc Tryd.prog W base sp held 62 v d p) :
    ∃ a b : Int, v = .agg #[.int .i64 a, .int .i64 b] ∧ d = .agg [.lit (.int .i64 a), .lit (.int .i64 b)] ∧ p = [] ∧ (Lit.int .i64 a).wf = true ∧ (Lit.int .i64 b).wf = true := by
  obtain ⟨cs, rfl, hs⟩ := okWide_struct Tryd.underlying62 hv
  obtain ⟨c0, c1, rfl⟩ := two_of (hs.trans ivCells)
  obtain ⟨fuel, hf⟩ := h
  obtain ⟨xs, n, _, ex, _, hl, hel⟩ := DataW.trod_struct Tryd.underlying62 (by simpa [Value.cells] using hf)
  have e0 : DataW.trod enc Tryd.prog W base sp held n 3 (([c0, c1].drop 0).take (Tryd.prog.cellsOf 3)) = xs[0]? := hel 0 _ rfl
  have e1 : DataW.trod enc Tryd.prog W base sp held n 3 (([c0, c1].drop 1).take (Tryd.prog.cellsOf 3)) = xs[1]? := hel 1 _ rfl
  rw [intCells] at e0 e1
  match xs, hl with
  | [x0, x1], _ =>
    obtain ⟨a, f0, ea, wa⟩ := DataW.trod_int Tryd.underlying3 e0
    obtain ⟨b, f1, eb, wb⟩ := DataW.trod_int Tryd.underlying3 e1
    simp at f0 f1
    subst f0 f1
    subst ea eb
    simp only [Prod.mk.injEq] at ex
    exact ⟨a, b, rfl, ex.1, by simpa using ex.2, wa, wb⟩

set_option maxRecDepth 100000 in
theorem shut_iv {H : Type} {enc : TypeId × Value → H} {W : World} {base : Nat} {sp : Nat → Bool} {held : Bool} {a b : Int} (wa : (Lit.int .i64 a).wf = true) (wb : (Lit.int .i64 b).wf = true) :
    DataW.Trod enc Tryd.prog W base sp held 62 (.agg #[.int .i64 a, .int .i64 b]) (.agg [.lit (.int .i64 a), .lit (.int .i64 b)]) [] := by
  refine ⟨2, ?_⟩
  unfold DataW.trod
  rw [Tryd.underlying62]
  simp [Value.cells, ivCells, intCells, DataW.trod, Tryd.underlying3, wa, wb]

end Go.Proofs.YtdiokagnpiiijaaDoor
