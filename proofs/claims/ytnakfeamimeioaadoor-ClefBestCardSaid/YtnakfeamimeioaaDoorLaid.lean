import Derived.Test.YtnakfeamimeioaaDoorRows
import Derived.Test.YtnakfeamimeioaaDoorCards
import Derived.Test.YtnakfeamimeioaaDoorTie
import Derived.Test.YtnakfeamimeioaaDoorC2
import Derived.ProofKit
import Derived.LaidMore
import Derived.OpenShut
import Derived.Lay
import Derived.Stop.Joined
import Derived.Stop.LaidErr
import Derived.Lib.LaidTab
import Derived.LaidSub
import Derived.Laws.IdiomArrays
/-! What the listed variables give; arguments: opened and shut. -/
namespace Go.Proofs.YtnakfeamimeioaaDoor
open Go.ChangeShapes Go.WideShapes Go.ChangeAt Go.RowKit

abbrev laidL : List (String × DataW Unit) := [("hemiola/pitch.heights", Rows.laid_hemiola_pitch_heights), ("hemiola/clef.designs", Rows.laid_hemiola_clef_designs), ("hemiola/clef.order", Rows.laid_hemiola_clef_order)]
theorem own : ownKnob Tryd.prog.godebug = none := by kernel_rfl
theorem htsData : (Rows.laid_hemiola_pitch_heights : DataW Unit) = Lib.tabData .i64 [0, 2, 4, 5, 7, 9, 11] := by kernel_rfl
theorem ordData : (Rows.laid_hemiola_clef_order : DataW Unit) = Lib.tabData .i64 [3, 0, 4, 1, 5, 2, 6] := by kernel_rfl
theorem gHts : Tryd.prog.globalNamed "hemiola/pitch.heights" = some 2 := by kernel_rfl
theorem gOrd : Tryd.prog.globalNamed "hemiola/clef.order" = some 0 := by kernel_rfl
theorem gDsn : Tryd.prog.globalNamed "hemiola/clef.designs" = some 1 := by kernel_rfl

theorem of_filter {W : World} {n : String} {d : DataW Unit} {l : List (String × DataW Unit)} (h : laidMetH Tryd.prog l W) (e : l.filter (fun x => x.1 == n) = [(n, d)]) (hn : d.handleName?.isNone = true) : laidMet Tryd.prog [(n, d)] W := by
  have h1 := laidMetH.filter (fun x => x.1 == n) h
  rw [e, MakeChecks.laidMetH_plain _ _ _ (by simp [hn])] at h1
  exact h1

/-- a design that is read -/
def dsD {H : Type} (z : List UInt8) (a b c d e f : Int) : DataW H := .agg [.lit (.string z), .lit (.int .u8 a), .lit (.int .i64 b), .lit (.int .i64 c), .lit (.int .i64 d), .lit (.int .i64 e), .lit (.int .i64 f)]
theorem at_take {cs : List Value} {o : Nat} {v : Value} (h : (cs.drop o).take 1 = [v]) : cs[o]? = some v := by
  have h0 : ((cs.drop o).take 1)[0]? = some v := by rw [h]; rfl
  simpa using h0
theorem dsCells : Tryd.prog.cellsOf 63 = 7 := by kernel_rfl
theorem strCells : Tryd.prog.cellsOf 9 = 1 := by kernel_rfl
theorem u8Cells : Tryd.prog.cellsOf 5 = 1 := by kernel_rfl
theorem intCells : Tryd.prog.cellsOf 3 = 1 := by kernel_rfl
set_option maxRecDepth 100000 in
theorem cells_design {H : Type} {enc : TypeId × Value → H} {w : World} {base : Nat} {sp : Nat → Bool} {held : Bool} {fuel : Nat} {cs : List Value} {z : List UInt8} {a b c d e f : Int} {p : List MemPlace}
    (h : DataW.trod enc Tryd.prog w base sp held fuel 63 cs = some (dsD z a b c d e f, p)) :
    cs[0]? = some (.string ⟨z.toArray⟩) ∧ cs[1]? = some (.int .u8 a) ∧ cs[2]? = some (.int .i64 b) ∧ cs[3]? = some (.int .i64 c) ∧ cs[4]? = some (.int .i64 d) ∧ cs[5]? = some (.int .i64 e) ∧ cs[6]? = some (.int .i64 f) := by
  obtain ⟨xs, n, _, ex, _, hl, hel⟩ := DataW.trod_struct Tryd.underlying63 h
  have e0 : DataW.trod enc Tryd.prog w base sp held n 9 ((cs.drop 0).take (Tryd.prog.cellsOf 9)) = xs[0]? := hel 0 _ rfl
  have e1 : DataW.trod enc Tryd.prog w base sp held n 5 ((cs.drop 1).take (Tryd.prog.cellsOf 5)) = xs[1]? := hel 1 _ rfl
  have e2 : DataW.trod enc Tryd.prog w base sp held n 3 ((cs.drop 2).take (Tryd.prog.cellsOf 3)) = xs[2]? := hel 2 _ rfl
  have e3 : DataW.trod enc Tryd.prog w base sp held n 3 ((cs.drop 3).take (Tryd.prog.cellsOf 3)) = xs[3]? := hel 3 _ rfl
  have e4 : DataW.trod enc Tryd.prog w base sp held n 3 ((cs.drop 4).take (Tryd.prog.cellsOf 3)) = xs[4]? := hel 4 _ rfl
  have e5 : DataW.trod enc Tryd.prog w base sp held n 3 ((cs.drop 5).take (Tryd.prog.cellsOf 3)) = xs[5]? := hel 5 _ rfl
  have e6 : DataW.trod enc Tryd.prog w base sp held n 3 ((cs.drop 6).take (Tryd.prog.cellsOf 3)) = xs[6]? := hel 6 _ rfl
  rw [strCells] at e0
  rw [u8Cells] at e1
  rw [intCells] at e2 e3 e4 e5 e6
  match xs, hl with
  | [x0, x1, x2, x3, x4, x5, x6], _ =>
    obtain ⟨s0, f0, ea0, _⟩ := DataW.trod_string Tryd.underlying9 e0
    obtain ⟨s1, f1, ea1, _⟩ := DataW.trod_int Tryd.underlying5 e1
    obtain ⟨s2, f2, ea2, _⟩ := DataW.trod_int Tryd.underlying3 e2
    obtain ⟨s3, f3, ea3, _⟩ := DataW.trod_int Tryd.underlying3 e3
    obtain ⟨s4, f4, ea4, _⟩ := DataW.trod_int Tryd.underlying3 e4
    obtain ⟨s5, f5, ea5, _⟩ := DataW.trod_int Tryd.underlying3 e5
    obtain ⟨s6, f6, ea6, _⟩ := DataW.trod_int Tryd.underlying3 e6
    have ex1 := (Prod.mk.inj ex).1
    unfold dsD at ex1
    rw [ea0, ea1, ea2, ea3, ea4, ea5, ea6] at ex1
    simp at ex1
    obtain ⟨h0, h1, h2, h3, h4, h5, h6⟩ := ex1
    subst h1 h2 h3 h4 h5 h6
    refine ⟨?_, at_take f1, at_take f2, at_take f3, at_take f4, at_take f5, at_take f6⟩
    rw [at_take f0, h0]
theorem dsnData : (Rows.laid_hemiola_clef_designs : DataW Unit) = .agg [dsD [116, 114, 101, 98, 108, 101] 71 (-2) 0 34 (-1) (-3), dsD [98, 97, 115, 115] 70 2 0 22 (-3) (-5), dsD [97, 108, 116, 111] 67 0 0 28 (-2) (-4), dsD [116, 101, 110, 111, 114] 67 2 0 26 (-2) (-2), dsD [115, 111, 112, 114, 97, 110, 111] 67 (-4) 0 32 (-2) (-3), dsD [109, 101, 122, 122, 111, 115, 111, 112, 114, 97, 110, 111] 67 (-2) 0 30 (-2) (-3), dsD [98, 97, 114, 105, 116, 111, 110, 101] 70 0 0 24 (-2) (-3), dsD [116, 114, 101, 98, 108, 101, 56] 71 (-2) (-1) 27 (-1) (-3), dsD [98, 97, 115, 115, 56] 70 2 (-1) 15 (-3) (-5)] := by kernel_rfl

set_option maxRecDepth 100000 in
theorem dsn_of {W : World} (h : laidMet Tryd.prog [("hemiola/clef.designs", Rows.laid_hemiola_clef_designs)] W) : Dsn W := by
  obtain ⟨ps, ⟨g, t, cs, fuel, p, q, hg, ht, hv, hd, _, _⟩, _, _⟩ := h
  obtain rfl := Option.some.inj (gDsn.symm.trans hg)
  obtain rfl := Option.some.inj ((show (Tryd.prog.globals[1]?).map (·.type) = some 73 by kernel_rfl).symm.trans ht)
  rw [dsnData] at hd
  obtain ⟨xs, m, _, ex, _, hl, hel⟩ := DataW.trod_array Tryd.underlying73 hd
  have ex1 := (Prod.mk.inj ex).1
  rw [dsCells] at hel
  match xs, hl with
  | [x0, x1, x2, x3, x4, x5, x6, x7, x8], _ =>
    simp only [List.map_cons, List.map_nil, DataW.agg.injEq, List.cons.injEq, and_true] at ex1
    obtain ⟨h0, h1, h2, h3, h4, h5, h6, h7, h8⟩ := ex1
    have cell : ∀ (i k : Nat) (v : Value), ((cs.toList.drop (i * 7)).take 7)[k]? = some v → W.cell? ⟨1, i * 7 + k, none⟩ = some v := by
      intro i k v hk
      rw [World.var?_cell gDsn hv (i * 7 + k)]
      rw [List.getElem?_take] at hk
      split at hk
      · rw [List.getElem?_drop] at hk; simpa using hk
      · simp at hk
    have k0 := cells_design (fuel := m) (cs := (cs.toList.drop (0 * 7)).take 7) (p := x0.2) (by rw [hel 0 (by decide)]; simp only [List.getElem?_cons_zero]; rw [h0])
    have k1 := cells_design (fuel := m) (cs := (cs.toList.drop (1 * 7)).take 7) (p := x1.2) (by rw [hel 1 (by decide)]; simp only [List.getElem?_cons_succ, List.getElem?_cons_zero]; rw [h1])
    have k2 := cells_design (fuel := m) (cs := (cs.toList.drop (2 * 7)).take 7) (p := x2.2) (by rw [hel 2 (by decide)]; simp only [List.getElem?_cons_succ, List.getElem?_cons_zero]; rw [h2])
    have k3 := cells_design (fuel := m) (cs := (cs.toList.drop (3 * 7)).take 7) (p := x3.2) (by rw [hel 3 (by decide)]; simp only [List.getElem?_cons_succ, List.getElem?_cons_zero]; rw [h3])
    have k4 := cells_design (fuel := m) (cs := (cs.toList.drop (4 * 7)).take 7) (p := x4.2) (by rw [hel 4 (by decide)]; simp only [List.getElem?_cons_succ, List.getElem?_cons_zero]; rw [h4])
    have k5 := cells_design (fuel := m) (cs := (cs.toList.drop (5 * 7)).take 7) (p := x5.2) (by rw [hel 5 (by decide)]; simp only [List.getElem?_cons_succ, List.getElem?_cons_zero]; rw [h5])
    have k6 := cells_design (fuel := m) (cs := (cs.toList.drop (6 * 7)).take 7) (p := x6.2) (by rw [hel 6 (by decide)]; simp only [List.getElem?_cons_succ, List.getElem?_cons_zero]; rw [h6])
    have k7 := cells_design (fuel := m) (cs := (cs.toList.drop (7 * 7)).take 7) (p := x7.2) (by rw [hel 7 (by decide)]; simp only [List.getElem?_cons_succ, List.getElem?_cons_zero]; rw [h7])
    have k8 := cells_design (fuel := m) (cs := (cs.toList.drop (8 * 7)).take 7) (p := x8.2) (by rw [hel 8 (by decide)]; simp only [List.getElem?_cons_succ, List.getElem?_cons_zero]; rw [h8])
    exact ⟨⟨cell 0 0 _ k0.1, cell 0 1 _ k0.2.1, cell 0 2 _ k0.2.2.1, cell 0 3 _ k0.2.2.2.1, cell 0 4 _ k0.2.2.2.2.1, cell 0 5 _ k0.2.2.2.2.2.1, cell 0 6 _ k0.2.2.2.2.2.2⟩, ⟨cell 1 0 _ k1.1, cell 1 1 _ k1.2.1, cell 1 2 _ k1.2.2.1, cell 1 3 _ k1.2.2.2.1, cell 1 4 _ k1.2.2.2.2.1, cell 1 5 _ k1.2.2.2.2.2.1, cell 1 6 _ k1.2.2.2.2.2.2⟩, ⟨cell 2 0 _ k2.1, cell 2 1 _ k2.2.1, cell 2 2 _ k2.2.2.1, cell 2 3 _ k2.2.2.2.1, cell 2 4 _ k2.2.2.2.2.1, cell 2 5 _ k2.2.2.2.2.2.1, cell 2 6 _ k2.2.2.2.2.2.2⟩, ⟨cell 3 0 _ k3.1, cell 3 1 _ k3.2.1, cell 3 2 _ k3.2.2.1, cell 3 3 _ k3.2.2.2.1, cell 3 4 _ k3.2.2.2.2.1, cell 3 5 _ k3.2.2.2.2.2.1, cell 3 6 _ k3.2.2.2.2.2.2⟩, ⟨cell 4 0 _ k4.1, cell 4 1 _ k4.2.1, cell 4 2 _ k4.2.2.1, cell 4 3 _ k4.2.2.2.1, cell 4 4 _ k4.2.2.2.2.1, cell 4 5 _ k4.2.2.2.2.2.1, cell 4 6 _ k4.2.2.2.2.2.2⟩, ⟨cell 5 0 _ k5.1, cell 5 1 _ k5.2.1, cell 5 2 _ k5.2.2.1, cell 5 3 _ k5.2.2.2.1, cell 5 4 _ k5.2.2.2.2.1, cell 5 5 _ k5.2.2.2.2.2.1, cell 5 6 _ k5.2.2.2.2.2.2⟩, ⟨cell 6 0 _ k6.1, cell 6 1 _ k6.2.1, cell 6 2 _ k6.2.2.1, cell 6 3 _ k6.2.2.2.1, cell 6 4 _ k6.2.2.2.2.1, cell 6 5 _ k6.2.2.2.2.2.1, cell 6 6 _ k6.2.2.2.2.2.2⟩, ⟨cell 7 0 _ k7.1, cell 7 1 _ k7.2.1, cell 7 2 _ k7.2.2.1, cell 7 3 _ k7.2.2.2.1, cell 7 4 _ k7.2.2.2.2.1, cell 7 5 _ k7.2.2.2.2.2.1, cell 7 6 _ k7.2.2.2.2.2.2⟩, ⟨cell 8 0 _ k8.1, cell 8 1 _ k8.2.1, cell 8 2 _ k8.2.2.1, cell 8 3 _ k8.2.2.2.1, cell 8 4 _ k8.2.2.2.2.1, cell 8 5 _ k8.2.2.2.2.2.1, cell 8 6 _ k8.2.2.2.2.2.2⟩⟩
theorem tab_of_laid {W : World} (h : laidMetH Tryd.prog laidL W) : Tab W := by
  have hp := of_filter (n := "hemiola/pitch.heights") h rfl (by kernel_rfl)
  have ho := of_filter (n := "hemiola/clef.order") h rfl (by kernel_rfl)
  rw [htsData] at hp
  rw [ordData] at ho
  have k := Lib.tabIs_of_head gHts (by kernel_rfl) Tryd.underlying69 Tryd.underlying3 (by kernel_rfl) (by kernel_rfl) hp
  have k2 := Lib.tabIs_of_head gOrd (by kernel_rfl) Tryd.underlying69 Tryd.underlying3 (by kernel_rfl) (by kernel_rfl) ho
  exact ⟨⟨k.cell gHts 0 (by decide), k.cell gHts 1 (by decide), k.cell gHts 2 (by decide), k.cell gHts 3 (by decide), k.cell gHts 4 (by decide), k.cell gHts 5 (by decide), k.cell gHts 6 (by decide)⟩,
    dsn_of (of_filter (n := "hemiola/clef.designs") h rfl (by kernel_rfl)),
    ⟨k2.cell gOrd 0 (by decide), k2.cell gOrd 1 (by decide), k2.cell gOrd 2 (by decide), k2.cell gOrd 3 (by decide), k2.cell gOrd 4 (by decide), k2.cell gOrd 5 (by decide), k2.cell gOrd 6 (by decide)⟩⟩

/-- A world that is laid so meets the condition. -/
theorem laid_met (os : Os) (args : Array Value) : laidMetH Tryd.prog laidL ((World.laidAll Tryd.prog os laidL).forCall (fun _ _ => 0) ⟨#[], args, []⟩).memory := by
  rw [MakeChecks.laidMetH_plain _ _ _ (by kernel_rfl)]; exact laidMet_laidAll _ (by kernel_rfl) (by kernel_rfl)
theorem shapedL (os : Os) : (World.laidAll Tryd.prog os laidL).Shaped Tryd.prog := World.shaped_of_ZipB (by kernel_rfl) (by kernel_rfl)

theorem pitchCells : Tryd.prog.cellsOf 23 = 3 := by kernel_rfl
theorem three_of {α : Type} {cs : Array α} (h : cs.size = 3) : ∃ c0 c1 c2, cs = #[c0, c1, c2] := by
  obtain ⟨l⟩ := cs
  match l, h with
  | [c0, c1, c2], _ => exact ⟨c0, c1, c2, rfl⟩
set_option maxRecDepth 100000 in
theorem open_pitch {H : Type} {enc : TypeId × Value → H} {W : World} {base b0 : Nat} {sp : Nat → Bool} {held : Bool} {v : Value} {d : DataW H} {p : List MemPlace}
    (hv : Value.okWide Tryd.prog W .any b0 23 v) (h : DataW.Trod enc Tryd.prog W base sp held 23 v d p) :
    ∃ a b c : Int, v = .agg #[.int .i64 a, .int .i64 b, .int .i64 c] ∧ d = .agg [.lit (.int .i64 a), .lit (.int .i64 b), .lit (.int .i64 c)] ∧ p = [] ∧ (Lit.int .i64 a).wf = true ∧ (Lit.int .i64 b).wf = true ∧ (Lit.int .i64 c).wf = true := by
  obtain ⟨cs, rfl, hs⟩ := okWide_struct Tryd.underlying23 hv
  obtain ⟨c0, c1, c2, rfl⟩ := three_of (hs.trans pitchCells)
  obtain ⟨fuel, hf⟩ := h
  obtain ⟨xs, n, _, ex, _, hl, hel⟩ := DataW.trod_struct Tryd.underlying23 (by simpa [Value.cells] using hf)
  have e0 : DataW.trod enc Tryd.prog W base sp held n 3 (([c0, c1, c2].drop 0).take (Tryd.prog.cellsOf 3)) = xs[0]? := hel 0 _ rfl
  have e1 : DataW.trod enc Tryd.prog W base sp held n 3 (([c0, c1, c2].drop 1).take (Tryd.prog.cellsOf 3)) = xs[1]? := hel 1 _ rfl
  have e2 : DataW.trod enc Tryd.prog W base sp held n 3 (([c0, c1, c2].drop 2).take (Tryd.prog.cellsOf 3)) = xs[2]? := hel 2 _ rfl
  rw [intCells] at e0 e1 e2
  match xs, hl with
  | [x0, x1, x2], _ =>
    obtain ⟨a, f0, ea, wa⟩ := DataW.trod_int Tryd.underlying3 e0
    obtain ⟨b, f1, eb, wb⟩ := DataW.trod_int Tryd.underlying3 e1
    obtain ⟨c, f2, ec, wc⟩ := DataW.trod_int Tryd.underlying3 e2
    simp at f0 f1 f2
    subst f0 f1 f2
    subst ea eb ec
    simp only [Prod.mk.injEq] at ex
    exact ⟨a, b, c, rfl, ex.1, by simpa using ex.2, wa, wb, wc⟩

set_option maxRecDepth 100000 in
theorem shut_pitch {H : Type} {enc : TypeId × Value → H} {W : World} {base : Nat} {sp : Nat → Bool} {held : Bool} {a b c : Int} (wa : (Lit.int .i64 a).wf = true) (wb : (Lit.int .i64 b).wf = true) (wc : (Lit.int .i64 c).wf = true) :
    DataW.Trod enc Tryd.prog W base sp held 23 (.agg #[.int .i64 a, .int .i64 b, .int .i64 c]) (.agg [.lit (.int .i64 a), .lit (.int .i64 b), .lit (.int .i64 c)]) [] := by
  refine ⟨2, ?_⟩
  unfold DataW.trod
  rw [Tryd.underlying23]
  simp [Value.cells, pitchCells, intCells, DataW.trod, Tryd.underlying3, wa, wb, wc]

end Go.Proofs.YtnakfeamimeioaaDoor
