import Derived.Test.YtghlecocnflbnaaDoorLaid
import Derived.Test.YtghlecocnflbnaaDoorP1
/-! A row of places handed in. -/
namespace Go.Proofs.YtghlecocnflbnaaDoor
open Go.ChangeShapes Go.WideShapes Go.ChangeAt Go.RowKit
instance : Inhabited Pl := ⟨⟨0, 0, 0, 0, false, false, 0⟩⟩
theorem mCells : Tryd.prog.cellsOf 40 = 2 := by kernel_rfl
theorem pCells : Tryd.prog.cellsOf 42 = 7 := by kernel_rfl
set_option maxRecDepth 100000 in
theorem cells_m {H : Type} {enc : TypeId × Value → H} {W : World} {base : Nat} {sp : Nat → Bool} {held : Bool} {n : Nat} {cs : List Value} {x : DataW H × List MemPlace} (hl : cs.length = 2)
    (h : DataW.trod enc Tryd.prog W base sp held n 40 cs = some x) : ∃ p : Int × Bool, cs = [.int .i64 p.1, .bool p.2] := by
  match cs, hl with
  | [c0, c1], _ =>
    obtain ⟨xs, n, _, ex, _, hl, hel⟩ := DataW.trod_struct Tryd.underlying40 h
    have e0 : DataW.trod enc Tryd.prog W base sp held n 3 (([c0, c1].drop 0).take (Tryd.prog.cellsOf 3)) = xs[0]? := hel 0 _ rfl
    have e1 : DataW.trod enc Tryd.prog W base sp held n 4 (([c0, c1].drop 1).take (Tryd.prog.cellsOf 4)) = xs[1]? := hel 1 _ rfl
    rw [intCells] at e0
    rw [boolCells] at e1
    match xs, hl with
    | [x0, x1], _ =>
      obtain ⟨a, f0, ea, wa⟩ := DataW.trod_int Tryd.underlying3 e0
      obtain ⟨b, f1, eb⟩ := DataW.trod_bool Tryd.underlying4 e1
      simp at f0 f1
      subst f0 f1
      exact ⟨(a, b), rfl⟩
set_option maxRecDepth 100000 in
theorem cells_p {H : Type} {enc : TypeId × Value → H} {W : World} {base : Nat} {sp : Nat → Bool} {held : Bool} {n : Nat} {cs : List Value} {x : DataW H × List MemPlace} (hl : cs.length = 7)
    (h : DataW.trod enc Tryd.prog W base sp held n 42 cs = some x) : ∃ p : Pl, cs = [.int .i64 p.t, .int .i64 p.st, .int .i64 p.oc, .int .i64 p.k, .bool p.pr, .bool p.hd, .int .i64 p.bf] ∧ (Lit.int .i64 p.t).wf = true := by
  match cs, hl with
  | [c0, c1, c2, c3, c4, c5, c6], _ =>
    obtain ⟨xs, n, _, ex, _, hl, hel⟩ := DataW.trod_struct Tryd.underlying42 h
    have e0 : DataW.trod enc Tryd.prog W base sp held n 3 (([c0, c1, c2, c3, c4, c5, c6].drop 0).take (Tryd.prog.cellsOf 3)) = xs[0]? := hel 0 _ rfl
    have e1 : DataW.trod enc Tryd.prog W base sp held n 3 (([c0, c1, c2, c3, c4, c5, c6].drop 1).take (Tryd.prog.cellsOf 3)) = xs[1]? := hel 1 _ rfl
    have e2 : DataW.trod enc Tryd.prog W base sp held n 3 (([c0, c1, c2, c3, c4, c5, c6].drop 2).take (Tryd.prog.cellsOf 3)) = xs[2]? := hel 2 _ rfl
    have e3 : DataW.trod enc Tryd.prog W base sp held n 40 (([c0, c1, c2, c3, c4, c5, c6].drop 3).take (Tryd.prog.cellsOf 40)) = xs[3]? := hel 3 _ rfl
    have e4 : DataW.trod enc Tryd.prog W base sp held n 4 (([c0, c1, c2, c3, c4, c5, c6].drop 5).take (Tryd.prog.cellsOf 4)) = xs[4]? := hel 4 _ rfl
    have e5 : DataW.trod enc Tryd.prog W base sp held n 3 (([c0, c1, c2, c3, c4, c5, c6].drop 6).take (Tryd.prog.cellsOf 3)) = xs[5]? := hel 5 _ rfl
    rw [intCells] at e0 e1 e2 e5
    rw [mCells] at e3
    rw [boolCells] at e4
    match xs, hl with
    | [x0, x1, x2, x3, x4, x5], _ =>
      obtain ⟨a, f0, ea, wa⟩ := DataW.trod_int Tryd.underlying3 e0
      obtain ⟨b, f1, eb, wb⟩ := DataW.trod_int Tryd.underlying3 e1
      obtain ⟨c, f2, ec, wc⟩ := DataW.trod_int Tryd.underlying3 e2
      obtain ⟨⟨k, pr⟩, f3⟩ := cells_m (by simp) e3
      obtain ⟨hd, f4, e4'⟩ := DataW.trod_bool Tryd.underlying4 e4
      obtain ⟨bf, f5, ef, wf⟩ := DataW.trod_int Tryd.underlying3 e5
      simp at f0 f1 f2 f3 f4 f5
      obtain ⟨g0, g1⟩ := f3
      subst f0 f1 f2 g0 g1 f4 f5
      exact ⟨⟨a, b, c, k, pr, hd, bf⟩, rfl, wa⟩

set_option maxRecDepth 100000 in
theorem open_plsArg {H : Type} {enc : TypeId × Value → H} {W : World} {base b0 : Nat} {sp : Nat → Bool} {held : Bool} {v : Value} {d : DataW H} {p : List MemPlace}
    (hv : Value.okWide Tryd.prog W .any b0 37 v) (h : DataW.Trod enc Tryd.prog W base sp held 37 v d p) :
    ∃ a cap l, v = .slice a l.length cap ∧ l.length ≤ cap ∧ cap ≤ maxLen ∧ PlsAt W a l ∧ (∀ n ∈ l, (Lit.int .i64 n.t).wf = true) ∧ (a = none → cap = 0) := by
  obtain ⟨a0, len, cap, rfl⟩ := okWide_slice Tryd.underlying37 hv
  obtain ⟨fuel, hf⟩ := h
  rcases Go.Deep.open_slice Tryd.underlying37 hf with ⟨hcs, _⟩ | ⟨a, len', cap', m, n, D, PLx, hcs, _, hl, hm, hmm, _, hx⟩
  · simp [Value.cells] at hcs
    obtain ⟨rfl, rfl, rfl⟩ := hcs
    exact ⟨none, 0, [], rfl, Nat.le_refl _, Nat.zero_le _, .inl rfl, by simp, fun _ => rfl⟩
  · simp [Value.cells] at hcs
    obtain ⟨rfl, rfl, rfl⟩ := hcs
    have hlm : len ≤ m := by rw [hmm]; split <;> omega
    rw [pCells] at hx
    obtain ⟨f, hf2⟩ := Go.Deep.choose_lt (α := Pl) (n := len) (p := fun i q => (W.cell? (a.add (i * 7)) = some (.int .i64 q.t) ∧ W.cell? ((a.add (i * 7)).add 1) = some (.int .i64 q.st) ∧ W.cell? ((a.add (i * 7)).add 2) = some (.int .i64 q.oc) ∧ W.cell? ((a.add (i * 7)).add 3) = some (.int .i64 q.k) ∧ W.cell? ((a.add (i * 7)).add 4) = some (.bool q.pr) ∧ W.cell? ((a.add (i * 7)).add 5) = some (.bool q.hd) ∧ W.cell? ((a.add (i * 7)).add 6) = some (.int .i64 q.bf)) ∧ (Lit.int .i64 q.t).wf = true) (fun i hi => by
      obtain ⟨cs', h1, h2⟩ := hx i (by omega)
      obtain ⟨_, hlen, hcell⟩ := World.cells?_some h1
      obtain ⟨q, rfl, hw⟩ := cells_p hlen h2
      refine ⟨q, ⟨?_, ?_, ?_, ?_, ?_, ?_, ?_⟩, hw⟩
      · have := hcell 0 (by omega)
        simpa [Addr.add] using this
      · have := hcell 1 (by omega)
        simpa using this
      · have := hcell 2 (by omega)
        simpa using this
      · have := hcell 3 (by omega)
        simpa using this
      · have := hcell 4 (by omega)
        simpa using this
      · have := hcell 5 (by omega)
        simpa using this
      · have := hcell 6 (by omega)
        simpa using this)
    refine ⟨some a, cap, (List.range len).map f, by simp, by simpa using hl, hm, ?_, ?_, by simp⟩
    · by_cases h0 : len = 0
      · exact .inl (by rw [h0]; rfl)
      · obtain ⟨b, o, s⟩ := a
        have hspot : s = none := by simpa [Addr.add] using World.cell?_spot (hf2 0 (by omega)).1.1
        subst hspot
        refine .inr ⟨b, o, rfl, fun i x hx => ?_⟩
        rw [List.getElem?_map] at hx
        obtain ⟨j, hj, rfl⟩ := Option.map_eq_some_iff.1 hx
        obtain ⟨hi, hj2⟩ := List.getElem?_eq_some_iff.1 hj
        rw [List.getElem_range] at hj2
        subst hj2
        rw [List.length_range] at hi
        obtain ⟨⟨y0, y1, y2, y3, y4, y5, y6⟩, _⟩ := hf2 i hi
        rw [Go.Deep.add_add] at y1 y2 y3 y4 y5 y6
        refine ⟨?_, ?_, ?_, ?_, ?_, ?_, ?_⟩
        · by_cases hi0 : i = 0
          · subst hi0; simpa [Addr.add] using y0
          · have h3 : ¬ i * 7 = 0 := by omega
            simpa [Addr.add, h3] using y0
        · simpa [Addr.add, Nat.add_assoc] using y1
        · simpa [Addr.add, Nat.add_assoc] using y2
        · simpa [Addr.add, Nat.add_assoc] using y3
        · simpa [Addr.add, Nat.add_assoc] using y4
        · simpa [Addr.add, Nat.add_assoc] using y5
        · simpa [Addr.add, Nat.add_assoc] using y6
    · intro q hq
      obtain ⟨i, hi, rfl⟩ := List.mem_map.1 hq
      exact (hf2 i (List.mem_range.1 hi)).2
end Go.Proofs.YtghlecocnflbnaaDoor
