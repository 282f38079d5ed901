import Derived.Test.YtghlecocnflbnaaDoorRows
import Derived.Test.YtghlecocnflbnaaDoorCards
import Derived.Test.YtghlecocnflbnaaDoorTie
import Derived.Test.YtghlecocnflbnaaDoorA3
import Derived.Deep.Slices
import Derived.Carry
import Derived.ProofKit
import Derived.LaidMore
import Derived.OpenShut
import Derived.Lay
import Derived.Stop.Joined
import Derived.Stop.LaidErr
import Derived.Lib.LaidTab
import Derived.LaidSub
import Derived.Laws.IdiomArrays
/-! What the listed variables give; arguments that are pitches, intervals, pairs: opened and shut. -/
namespace Go.Proofs.YtghlecocnflbnaaDoor
open Go.ChangeShapes Go.WideShapes Go.ChangeAt Go.RowKit

abbrev laidL : List (String × DataW Unit) := [("hemiola/key.sharps", Rows.laid_hemiola_key_sharps)]
theorem own : ownKnob Tryd.prog.godebug = none := by kernel_rfl
theorem shData : (Rows.laid_hemiola_key_sharps : DataW Unit) = Lib.tabData .i64 [3, 0, 4, 1, 5, 2, 6] := by kernel_rfl
theorem gSh : Tryd.prog.globalNamed "hemiola/key.sharps" = some 0 := by kernel_rfl

theorem of_filter {W : World} {n : String} {d : DataW Unit} {l : List (String × DataW Unit)} (h : laidMetH Tryd.prog l W) (e : l.filter (fun x => x.1 == n) = [(n, d)]) (hn : d.handleName?.isNone = true) : laidMet Tryd.prog [(n, d)] W := by
  have h1 := laidMetH.filter (fun x => x.1 == n) h
  rw [e, MakeChecks.laidMetH_plain _ _ _ (by simp [hn])] at h1
  exact h1

theorem tab_of_laid {W : World} (h : laidMetH Tryd.prog laidL W) : Tab W := by
  have hs := of_filter (n := "hemiola/key.sharps") h rfl (by kernel_rfl)
  rw [shData] at hs
  have k := Lib.tabIs_of_head gSh (by kernel_rfl) Tryd.underlying81 Tryd.underlying3 (by kernel_rfl) (by kernel_rfl) hs
  exact ⟨k.cell gSh 0 (by decide), k.cell gSh 1 (by decide), k.cell gSh 2 (by decide), k.cell gSh 3 (by decide), k.cell gSh 4 (by decide), k.cell gSh 5 (by decide), k.cell gSh 6 (by decide)⟩

/-- A world that is laid so meets the condition. -/
theorem laid_met (os : Os) (args : Array Value) : laidMetH Tryd.prog laidL ((World.laidAll Tryd.prog os laidL).forCall (fun _ _ => 0) ⟨#[], args, []⟩).memory := by
  rw [MakeChecks.laidMetH_plain _ _ _ (by kernel_rfl)]; exact laidMet_laidAll _ (by kernel_rfl) (by kernel_rfl)
theorem shapedL (os : Os) : (World.laidAll Tryd.prog os laidL).Shaped Tryd.prog := World.shaped_of_ZipB (by kernel_rfl) (by kernel_rfl)

theorem pitchCells : Tryd.prog.cellsOf 52 = 3 := by kernel_rfl
theorem intCells : Tryd.prog.cellsOf 3 = 1 := by kernel_rfl
theorem boolCells : Tryd.prog.cellsOf 4 = 1 := by kernel_rfl
instance : Inhabited Nt := ⟨⟨0, 0, 0, 0, false, 0⟩⟩
theorem nCells : Tryd.prog.cellsOf 54 = 6 := by kernel_rfl
set_option maxRecDepth 100000 in
theorem cells_pitch {H : Type} {enc : TypeId × Value → H} {W : World} {base : Nat} {sp : Nat → Bool} {held : Bool} {n : Nat} {cs : List Value} {x : DataW H × List MemPlace} (hl : cs.length = 3)
    (h : DataW.trod enc Tryd.prog W base sp held n 52 cs = some x) : ∃ p : Int × Int × Int, cs = [.int .i64 p.1, .int .i64 p.2.1, .int .i64 p.2.2] ∧ ((Lit.int .i64 p.1).wf = true ∧ (Lit.int .i64 p.2.1).wf = true ∧ (Lit.int .i64 p.2.2).wf = true) := by
  match cs, hl with
  | [c0, c1, c2], _ =>
    obtain ⟨xs, n, _, ex, _, hl, hel⟩ := DataW.trod_struct Tryd.underlying52 h
    have e0 : DataW.trod enc Tryd.prog W base sp held n 3 (([c0, c1, c2].drop 0).take (Tryd.prog.cellsOf 3)) = xs[0]? := hel 0 _ rfl
    have e1 : DataW.trod enc Tryd.prog W base sp held n 3 (([c0, c1, c2].drop 1).take (Tryd.prog.cellsOf 3)) = xs[1]? := hel 1 _ rfl
    have e2 : DataW.trod enc Tryd.prog W base sp held n 3 (([c0, c1, c2].drop 2).take (Tryd.prog.cellsOf 3)) = xs[2]? := hel 2 _ rfl
    rw [intCells] at e0 e1 e2
    match xs, hl with
    | [x0, x1, x2], _ =>
      obtain ⟨a, f0, ea, wa⟩ := DataW.trod_int Tryd.underlying3 e0
      obtain ⟨b, f1, eb, wb⟩ := DataW.trod_int Tryd.underlying3 e1
      obtain ⟨c, f2, ec, wc⟩ := DataW.trod_int Tryd.underlying3 e2
      simp at f0 f1 f2
      subst f0 f1 f2
      exact ⟨(a, b, c), rfl, wa, wb, wc⟩
set_option maxRecDepth 100000 in
theorem cells_n {H : Type} {enc : TypeId × Value → H} {W : World} {base : Nat} {sp : Nat → Bool} {held : Bool} {n : Nat} {cs : List Value} {x : DataW H × List MemPlace} (hl : cs.length = 6)
    (h : DataW.trod enc Tryd.prog W base sp held n 54 cs = some x) : ∃ p : Nt, cs = [.int .i64 p.t, .int .i64 p.st, .int .i64 p.al, .int .i64 p.oc, .bool p.hd, .int .i64 p.sh] ∧ (Lit.int .i64 p.t).wf = true := by
  match cs, hl with
  | [c0, c1, c2, c3, c4, c5], _ =>
    obtain ⟨xs, n, _, ex, _, hl, hel⟩ := DataW.trod_struct Tryd.underlying54 h
    have e0 : DataW.trod enc Tryd.prog W base sp held n 3 (([c0, c1, c2, c3, c4, c5].drop 0).take (Tryd.prog.cellsOf 3)) = xs[0]? := hel 0 _ rfl
    have e1 : DataW.trod enc Tryd.prog W base sp held n 52 (([c0, c1, c2, c3, c4, c5].drop 1).take (Tryd.prog.cellsOf 52)) = xs[1]? := hel 1 _ rfl
    have e2 : DataW.trod enc Tryd.prog W base sp held n 4 (([c0, c1, c2, c3, c4, c5].drop 4).take (Tryd.prog.cellsOf 4)) = xs[2]? := hel 2 _ rfl
    have e3 : DataW.trod enc Tryd.prog W base sp held n 3 (([c0, c1, c2, c3, c4, c5].drop 5).take (Tryd.prog.cellsOf 3)) = xs[3]? := hel 3 _ rfl
    rw [intCells] at e0 e3
    rw [pitchCells] at e1
    rw [boolCells] at e2
    match xs, hl with
    | [x0, x1, x2, x3], _ =>
      obtain ⟨a, f0, ea, wa⟩ := DataW.trod_int Tryd.underlying3 e0
      obtain ⟨⟨s, al, o⟩, f1, _⟩ := cells_pitch (by simp) e1
      obtain ⟨b, f2, eb⟩ := DataW.trod_bool Tryd.underlying4 e2
      obtain ⟨d, f3, ed, wd⟩ := DataW.trod_int Tryd.underlying3 e3
      simp at f0 f1 f2 f3
      obtain ⟨g0, g1, g2⟩ := f1
      subst f0 g0 g1 g2 f2 f3
      exact ⟨⟨a, s, al, o, b, d⟩, rfl, wa⟩

set_option maxRecDepth 100000 in
theorem open_nsArg {H : Type} {enc : TypeId × Value → H} {W : World} {base b0 : Nat} {sp : Nat → Bool} {held : Bool} {v : Value} {d : DataW H} {p : List MemPlace}
    (hv : Value.okWide Tryd.prog W .any b0 22 v) (h : DataW.Trod enc Tryd.prog W base sp held 22 v d p) :
    ∃ a cap l, v = .slice a l.length cap ∧ l.length ≤ cap ∧ cap ≤ maxLen ∧ NtsAt W a l ∧ (∀ n ∈ l, (Lit.int .i64 n.t).wf = true) ∧ (a = none → cap = 0) := by
  obtain ⟨a0, len, cap, rfl⟩ := okWide_slice Tryd.underlying22 hv
  obtain ⟨fuel, hf⟩ := h
  rcases Go.Deep.open_slice Tryd.underlying22 hf with ⟨hcs, _⟩ | ⟨a, len', cap', m, n, D, Pl, hcs, _, hl, hm, hmm, _, hx⟩
  · simp [Value.cells] at hcs
    obtain ⟨rfl, rfl, rfl⟩ := hcs
    exact ⟨none, 0, [], rfl, Nat.le_refl _, Nat.zero_le _, .inl rfl, by simp, fun _ => rfl⟩
  · simp [Value.cells] at hcs
    obtain ⟨rfl, rfl, rfl⟩ := hcs
    have hlm : len ≤ m := by rw [hmm]; split <;> omega
    rw [nCells] at hx
    obtain ⟨f, hf2⟩ := Go.Deep.choose_lt (α := Nt) (n := len) (p := fun i q => (W.cell? (a.add (i * 6)) = some (.int .i64 q.t) ∧ W.cell? ((a.add (i * 6)).add 1) = some (.int .i64 q.st) ∧ W.cell? ((a.add (i * 6)).add 2) = some (.int .i64 q.al) ∧ W.cell? ((a.add (i * 6)).add 3) = some (.int .i64 q.oc) ∧ W.cell? ((a.add (i * 6)).add 4) = some (.bool q.hd) ∧ W.cell? ((a.add (i * 6)).add 5) = some (.int .i64 q.sh)) ∧ (Lit.int .i64 q.t).wf = true) (fun i hi => by
      obtain ⟨cs', h1, h2⟩ := hx i (by omega)
      obtain ⟨_, hlen, hcell⟩ := World.cells?_some h1
      obtain ⟨q, rfl, hw⟩ := cells_n hlen h2
      refine ⟨q, ⟨?_, ?_, ?_, ?_, ?_, ?_⟩, hw⟩
      · have := hcell 0 (by omega)
        simpa [Addr.add] using this
      · have := hcell 1 (by omega)
        simpa using this
      · have := hcell 2 (by omega)
        simpa using this
      · have := hcell 3 (by omega)
        simpa using this
      · have := hcell 4 (by omega)
        simpa using this
      · have := hcell 5 (by omega)
        simpa using this)
    refine ⟨some a, cap, (List.range len).map f, by simp, by simpa using hl, hm, ?_, ?_, by simp⟩
    · by_cases h0 : len = 0
      · exact .inl (by rw [h0]; rfl)
      · obtain ⟨b, o, s⟩ := a
        have hspot : s = none := by simpa [Addr.add] using World.cell?_spot (hf2 0 (by omega)).1.1
        subst hspot
        refine .inr ⟨b, o, rfl, fun i x hx => ?_⟩
        rw [List.getElem?_map] at hx
        obtain ⟨j, hj, rfl⟩ := Option.map_eq_some_iff.1 hx
        obtain ⟨hi, hj2⟩ := List.getElem?_eq_some_iff.1 hj
        rw [List.getElem_range] at hj2
        subst hj2
        rw [List.length_range] at hi
        obtain ⟨⟨y0, y1, y2, y3, y4, y5⟩, _⟩ := hf2 i hi
        rw [Go.Deep.add_add] at y1 y2 y3 y4 y5
        refine ⟨?_, ?_, ?_, ?_, ?_, ?_⟩
        · by_cases hi0 : i = 0
          · subst hi0; simpa [Addr.add] using y0
          · have h3 : ¬ i * 6 = 0 := by omega
            simpa [Addr.add, h3] using y0
        · simpa [Addr.add, Nat.add_assoc] using y1
        · simpa [Addr.add, Nat.add_assoc] using y2
        · simpa [Addr.add, Nat.add_assoc] using y3
        · simpa [Addr.add, Nat.add_assoc] using y4
        · simpa [Addr.add, Nat.add_assoc] using y5
    · intro q hq
      obtain ⟨i, hi, rfl⟩ := List.mem_map.1 hq
      exact (hf2 i (List.mem_range.1 hi)).2
end Go.Proofs.YtghlecocnflbnaaDoor
