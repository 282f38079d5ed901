import Derived.Test.YtipamoakeccecaaDoorLaid
import Derived.Laws.IdiomArrays
/-! An argument that is a pitch: opened and shut. -/
namespace Go.Proofs.YtipamoakeccecaaDoor
open Go.ChangeShapes Go.WideShapes Go.ChangeAt Go.RowKit

theorem pitchCells : Tryd.prog.cellsOf 23 = 3 := by kernel_rfl
theorem intCells : Tryd.prog.cellsOf 3 = 1 := by kernel_rfl
theorem three_of {α : Type} {cs : Array α} (h : cs.size = 3) : ∃ c0 c1 c2, cs = #[c0, c1, c2] := by
  obtain ⟨l⟩ := cs
  match l, h with
  | [c0, c1, c2], _ => exact ⟨c0, c1, c2, rfl⟩

set_option maxRecDepth 100000 in
theorem open_pitch {H : Type} {enc : TypeId × Value → H} {W : World} {base b0 : Nat} {sp : Nat → Bool} {held : Bool} {v : Value} {d : DataW H} {p : List MemPlace}
    (hv : Value.okWide Tryd.prog W .any b0 23 v) (h : DataW.Trod enc Tryd.prog W base sp held 23 v d p) :
    ∃ a b c : Int, v = .agg #[.int .i64 a, .int .i64 b, .int .i64 c] ∧ d = .agg [.lit (.int .i64 a), .lit (.int .i64 b), .lit (.int .i64 c)] ∧ p = [] ∧ (Lit.int .i64 a).wf = true ∧ (Lit.int .i64 b).wf = true ∧ (Lit.int .i64 c).wf = true := by
  obtain ⟨cs, rfl, hs⟩ := okWide_struct Tryd.underlying23 hv
  obtain ⟨c0, c1, c2, rfl⟩ := three_of (hs.trans pitchCells)
  obtain ⟨fuel, hf⟩ := h
  obtain ⟨xs, n, _, ex, _, hl, hel⟩ := DataW.trod_struct Tryd.underlying23 (by simpa [Value.cells] using hf)
  have e0 : DataW.trod enc Tryd.prog W base sp held n 3 (([c0, c1, c2].drop 0).take (Tryd.prog.cellsOf 3)) = xs[0]? := hel 0 _ rfl
  have e1 : DataW.trod enc Tryd.prog W base sp held n 3 (([c0, c1, c2].drop 1).take (Tryd.prog.cellsOf 3)) = xs[1]? := hel 1 _ rfl
  have e2 : DataW.trod enc Tryd.prog W base sp held n 3 (([c0, c1, c2].drop 2).take (Tryd.prog.cellsOf 3)) = xs[2]? := hel 2 _ rfl
  rw [intCells] at e0 e1 e2
  match xs, hl with
  | [x0, x1, x2], _ =>
    obtain ⟨a, f0, ea, wa⟩ := DataW.trod_int Tryd.underlying3 e0
    obtain ⟨b, f1, eb, wb⟩ := DataW.trod_int Tryd.underlying3 e1
    obtain ⟨c, f2, ec, wc⟩ := DataW.trod_int Tryd.underlying3 e2
    simp at f0 f1 f2
    subst f0 f1 f2
    subst ea eb ec
    simp only [Prod.mk.injEq] at ex
    exact ⟨a, b, c, rfl, ex.1, by simpa using ex.2, wa, wb, wc⟩

set_option maxRecDepth 100000 in
theorem shut_pitch {H : Type} {enc : TypeId × Value → H} {W : World} {base : Nat} {sp : Nat → Bool} {held : Bool} {a b c : Int} (wa : (Lit.int .i64 a).wf = true) (wb : (Lit.int .i64 b).wf = true) (wc : (Lit.int .i64 c).wf = true) :
    DataW.Trod enc Tryd.prog W base sp held 23 (.agg #[.int .i64 a, .int .i64 b, .int .i64 c]) (.agg [.lit (.int .i64 a), .lit (.int .i64 b), .lit (.int .i64 c)]) [] := by
  refine ⟨2, ?_⟩
  unfold DataW.trod
  rw [Tryd.underlying23]
  simp [Value.cells, pitchCells, intCells, DataW.trod, Tryd.underlying3, wa, wb, wc]
end Go.Proofs.YtipamoakeccecaaDoor
