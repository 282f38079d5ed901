import Derived.Test.YthengbhokamhbaaDoorLaid
import Derived.Laws.IdiomArrays
/-! An argument of two numbers by value: opened and shut. -/
namespace Go.Proofs.YthengbhokamhbaaDoor
open Go.ChangeShapes Go.WideShapes Go.ChangeAt Go.RowKit

theorem two_of {α : Type} {cs : Array α} (h : cs.size = 2) : ∃ c0 c1, cs = #[c0, c1] := by
  obtain ⟨l⟩ := cs
  match l, h with
  | [c0, c1], _ => exact ⟨c0, c1, rfl⟩
theorem okWide_array2 {P : Program} {W : World} {r : Reach} {b0 : Nat} {t e : TypeId} {v : Value} (ht : P.underlying t = some (.array 2 e)) (hC : P.cellsOf t = 2) (h : Value.okWide P W r b0 t v) : ∃ c0 c1, v = .agg #[c0, c1] := by
  simp only [Value.okWide, ht] at h
  obtain ⟨cs, rfl, h2, _⟩ := h
  obtain ⟨c0, c1, rfl⟩ := two_of (h2.trans hC)
  exact ⟨c0, c1, rfl⟩
theorem trod_array2 {H : Type} {enc : TypeId × Value → H} {P : Program} {w : World} {base : Nat} {spare : Nat → Bool} {held : Bool} {t e : TypeId} {fuel : Nat} {c0 c1 : Value} {x : DataW H × List MemPlace} (ht : P.underlying t = some (.array 2 e)) (hce : P.cellsOf e = 1)
    (h : DataW.trod enc P w base spare held fuel t [c0, c1] = some x) :
    ∃ y0 y1 n, x = (.agg [y0.1, y1.1], y0.2 ++ y1.2) ∧ DataW.trod enc P w base spare held n e [c0] = some y0 ∧ DataW.trod enc P w base spare held n e [c1] = some y1 := by
  cases fuel with
  | zero => simp [DataW.trod] at h
  | succ n =>
    unfold DataW.trod at h
    rw [ht] at h
    have r2 : List.range 2 = [0, 1] := rfl
    simp [r2, hce] at h
    obtain ⟨_, h⟩ := h
    cases h0 : DataW.trod enc P w base spare held n e [c0] with
    | none => simp [h0] at h
    | some y0 =>
      cases h1 : DataW.trod enc P w base spare held n e [c1] with
      | none => simp [h0, h1] at h
      | some y1 =>
        simp [h0, h1] at h
        exact ⟨y0, y1, n, h.symm, h0, h1⟩
theorem mk_array2 {H : Type} {enc : TypeId × Value → H} {P : Program} {w : World} {base : Nat} {spare : Nat → Bool} {held : Bool} {t e : TypeId} {a b : Int} (ht : P.underlying t = some (.array 2 e)) (hC : P.cellsOf t = 2) (hce : P.cellsOf e = 1) (he : P.underlying e = some (.int .i64))
    (wa : (Lit.int .i64 a).wf = true) (wb : (Lit.int .i64 b).wf = true) : DataW.trod enc P w base spare held 2 t [.int .i64 a, .int .i64 b] = some (.agg [.lit (.int .i64 a), .lit (.int .i64 b)], []) := by
  unfold DataW.trod
  rw [ht]
  have r2 : List.range 2 = [0, 1] := rfl
  simp [r2, hC, hce, DataW.trod, he, wa, wb]

set_option maxRecDepth 100000 in
theorem arrCells : Tryd.prog.cellsOf 30 = 2 := by kernel_rfl
theorem intCells : Tryd.prog.cellsOf 3 = 1 := by kernel_rfl

theorem open_array2 {H : Type} {enc : TypeId × Value → H} {P : Program} {W : World} {base b0 : Nat} {sp : Nat → Bool} {held : Bool} {t e : TypeId} {v : Value} {d : DataW H} {p : List MemPlace}
    (ht : P.underlying t = some (.array 2 e)) (hC : P.cellsOf t = 2) (hce : P.cellsOf e = 1) (he : P.underlying e = some (.int .i64)) (hv : Value.okWide P W .any b0 t v) (h : DataW.Trod enc P W base sp held t v d p) :
    ∃ a b : Int, v = .agg #[.int .i64 a, .int .i64 b] ∧ d = .agg [.lit (.int .i64 a), .lit (.int .i64 b)] ∧ p = [] ∧ (Lit.int .i64 a).wf = true ∧ (Lit.int .i64 b).wf = true := by
  obtain ⟨c0, c1, rfl⟩ := okWide_array2 ht hC hv
  obtain ⟨fuel, hf⟩ := h
  obtain ⟨y0, y1, n, hx, h0, h1⟩ := trod_array2 ht hce (by simpa [Value.cells] using hf)
  obtain ⟨a, e0, ea, wa⟩ := DataW.trod_int he h0
  obtain ⟨b, e1, eb, wb⟩ := DataW.trod_int he h1
  simp at e0 e1
  subst e0 e1 ea eb
  simp only [Prod.mk.injEq] at hx
  exact ⟨a, b, rfl, hx.1, by simpa using hx.2, wa, wb⟩
set_option maxRecDepth 100000 in
theorem open_arr2 {H : Type} {enc : TypeId × Value → H} {W : World} {base b0 : Nat} {sp : Nat → Bool} {held : Bool} {v : Value} {d : DataW H} {p : List MemPlace}
    (hv : Value.okWide Tryd.prog W .any b0 30 v) (h : DataW.Trod enc Tryd.prog W base sp held 30 v d p) :
    ∃ a b : Int, v = .agg #[.int .i64 a, .int .i64 b] ∧ d = .agg [.lit (.int .i64 a), .lit (.int .i64 b)] ∧ p = [] ∧ (Lit.int .i64 a).wf = true ∧ (Lit.int .i64 b).wf = true :=
  open_array2 Tryd.underlying30 arrCells intCells Tryd.underlying3 hv h

set_option maxRecDepth 100000 in
theorem shut_arr2 {H : Type} {enc : TypeId × Value → H} {W : World} {base : Nat} {sp : Nat → Bool} {held : Bool} {a b : Int} (wa : (Lit.int .i64 a).wf = true) (wb : (Lit.int .i64 b).wf = true) :
    DataW.Trod enc Tryd.prog W base sp held 30 (.agg #[.int .i64 a, .int .i64 b]) (.agg [.lit (.int .i64 a), .lit (.int .i64 b)]) [] :=
  ⟨2, by simpa [Value.cells] using mk_array2 Tryd.underlying30 arrCells intCells Tryd.underlying3 wa wb⟩

/-- two boxes that are made one after the other, in later worlds -/
theorem pair_later {w w1 : World} {c0 c1 d0 d1 : Value} {t t' : TypeId} (h : G ((w.alloc (.cells #[c0, c1] t)).alloc (.cells #[d0, d1] t')) w1) :
    w1.cell? ⟨w.heap.size, 0, none⟩ = some c0 ∧ w1.cell? ⟨w.heap.size, 1, none⟩ = some c1 ∧ w1.cell? ⟨w.heap.size + 1, 0, none⟩ = some d0 ∧ w1.cell? ⟨w.heap.size + 1, 1, none⟩ = some d1 := by
  obtain ⟨a, b, _, _, c, d, _, _, _⟩ := two_cells h
  exact ⟨a, b, c, d⟩
/-- a block of two cells -/
def Bx (w : World) (b : Nat) (x y : Value) : Prop := b < w.heap.size ∧ w.cell? ⟨b, 0, none⟩ = some x ∧ w.cell? ⟨b, 1, none⟩ = some y
theorem Bx.later {w w' : World} {b : Nat} {x y : Value} (h : Bx w b x y) (g : G w w') : Bx w' b x y :=
  ⟨Nat.lt_of_lt_of_le h.1 g.size, (g.cell h.1).trans h.2.1, (g.cell h.1).trans h.2.2⟩
theorem Bx.new (w : World) (x y : Value) (t : TypeId) : Bx (w.alloc (.cells #[x, y] t)) w.heap.size x y := ⟨by simp, by go_cell, by go_cell⟩
/-- a new block of two cells that was stored into -/
theorem stored {a w7 : World} {q : Nat} {x y u v : Value} (hW : G a w7) (hq : a.heap.size ≤ q) (hs : q < w7.heap.size) (c0 : w7.cell? ⟨q, 0, none⟩ = some u) (c1 : w7.cell? ⟨q, 1, none⟩ = some v) :
    Bx ((w7.setCell ⟨q, 0, none⟩ x).setCell ⟨q, 1, none⟩ y) q x y ∧ G a ((w7.setCell ⟨q, 0, none⟩ x).setCell ⟨q, 1, none⟩ y) :=
  ⟨⟨by simpa using hs, by simp [go_sem, c0], by simp [go_sem, c1]⟩, (hW.setCell hq _).setCell hq _⟩
open QM in
theorem same_of (n d : Int) (w : World) :
    Calls Tryd.prog 8 #[.agg #[.int .i64 (oN n d), .int .i64 (oD n d - 1)], .int .i64 (oE n d), .agg #[.int .i64 (oN n d), .int .i64 (oD n d)], .int .i64 (oE n d)] w fun e w' => e = .returned (.bool true) ∧ G w w' := by
  have b := oD_bd n d
  have h := same_any (oN n d) (oD n d - 1) (oE n d) w (by
    by_cases z : oE n d = 0
    · exact Or.inl z
    · obtain ⟨x, y⟩ := o_bad z
      exact Or.inr ⟨x, by omega, by simpa using z⟩) (by omega) (by omega)
  rw [Int.sub_add_cancel] at h
  exact h

end Go.Proofs.YthengbhokamhbaaDoor
