import Derived.Test.YtnakfeamimeioaaDoorLaid
/-! An argument of two small integers: opened and shut; boxes of three cells that are stored into. -/
namespace Go.Proofs.YtnakfeamimeioaaDoor
open Go.ChangeShapes Go.WideShapes Go.ChangeAt Go.RowKit
theorem two_of {α : Type} {cs : Array α} (h : cs.size = 2) : ∃ c0 c1, cs = #[c0, c1] := by
  obtain ⟨l⟩ := cs
  match l, h with
  | [c0, c1], _ => exact ⟨c0, c1, rfl⟩

theorem okWide_array2 {P : Program} {W : World} {r : Reach} {b0 : Nat} {t e : TypeId} {v : Value} (ht : P.underlying t = some (.array 2 e)) (hC : P.cellsOf t = 2) (h : Value.okWide P W r b0 t v) : ∃ c0 c1, v = .agg #[c0, c1] := by
  simp only [Value.okWide, ht] at h
  obtain ⟨cs, rfl, h2, _⟩ := h
  obtain ⟨c0, c1, rfl⟩ := two_of (h2.trans hC)
  exact ⟨c0, c1, rfl⟩
theorem trod_array2 {H : Type} {enc : TypeId × Value → H} {P : Program} {w : World} {base : Nat} {spare : Nat → Bool} {held : Bool} {t e : TypeId} {fuel : Nat} {c0 c1 : Value} {x : DataW H × List MemPlace} (ht : P.underlying t = some (.array 2 e)) (hce : P.cellsOf e = 1)
    (h : DataW.trod enc P w base spare held fuel t [c0, c1] = some x) :
    ∃ y0 y1 n, x = (.agg [y0.1, y1.1], y0.2 ++ y1.2) ∧ DataW.trod enc P w base spare held n e [c0] = some y0 ∧ DataW.trod enc P w base spare held n e [c1] = some y1 := by
  cases fuel with
  | zero => simp [DataW.trod] at h
  | succ n =>
    unfold DataW.trod at h
    rw [ht] at h
    have r2 : List.range 2 = [0, 1] := rfl
    simp [r2, hce] at h
    obtain ⟨_, h⟩ := h
    cases h0 : DataW.trod enc P w base spare held n e [c0] with
    | none => simp [h0] at h
    | some y0 =>
      cases h1 : DataW.trod enc P w base spare held n e [c1] with
      | none => simp [h0, h1] at h
      | some y1 =>
        simp [h0, h1] at h
        exact ⟨y0, y1, n, h.symm, h0, h1⟩
theorem mk_array2 {H : Type} {enc : TypeId × Value → H} {P : Program} {w : World} {base : Nat} {spare : Nat → Bool} {held : Bool} {t e : TypeId} {k : IntKind} {a b : Int} (ht : P.underlying t = some (.array 2 e)) (hC : P.cellsOf t = 2) (hce : P.cellsOf e = 1) (he : P.underlying e = some (.int k))
    (wa : (Lit.int k a).wf = true) (wb : (Lit.int k b).wf = true) : DataW.trod enc P w base spare held 2 t [.int k a, .int k b] = some (.agg [.lit (.int k a), .lit (.int k b)], []) := by
  unfold DataW.trod
  rw [ht]
  have r2 : List.range 2 = [0, 1] := rfl
  simp [r2, hC, hce, DataW.trod, he, wa, wb]

theorem open_array2 {H : Type} {enc : TypeId × Value → H} {P : Program} {W : World} {base b0 : Nat} {sp : Nat → Bool} {held : Bool} {t e : TypeId} {k : IntKind} {v : Value} {d : DataW H} {p : List MemPlace}
    (ht : P.underlying t = some (.array 2 e)) (hC : P.cellsOf t = 2) (hce : P.cellsOf e = 1) (he : P.underlying e = some (.int k)) (hv : Value.okWide P W .any b0 t v) (h : DataW.Trod enc P W base sp held t v d p) :
    ∃ a b : Int, v = .agg #[.int k a, .int k b] ∧ d = .agg [.lit (.int k a), .lit (.int k b)] ∧ p = [] ∧ (Lit.int k a).wf = true ∧ (Lit.int k b).wf = true := by
  obtain ⟨c0, c1, rfl⟩ := okWide_array2 ht hC hv
  obtain ⟨fuel, hf⟩ := h
  obtain ⟨y0, y1, n, hx, h0, h1⟩ := trod_array2 ht hce (by simpa [Value.cells] using hf)
  obtain ⟨a, e0, ea, wa⟩ := DataW.trod_int he h0
  obtain ⟨b, e1, eb, wb⟩ := DataW.trod_int he h1
  simp at e0 e1
  subst e0 e1 ea eb
  simp only [Prod.mk.injEq] at hx
  exact ⟨a, b, rfl, hx.1, by simpa using hx.2, wa, wb⟩

theorem arrCells : Tryd.prog.cellsOf 38 = 2 := by kernel_rfl
set_option maxRecDepth 100000 in
theorem open_u82 {H : Type} {enc : TypeId × Value → H} {W : World} {base b0 : Nat} {sp : Nat → Bool} {held : Bool} {v : Value} {d : DataW H} {p : List MemPlace}
    (hv : Value.okWide Tryd.prog W .any b0 38 v) (h : DataW.Trod enc Tryd.prog W base sp held 38 v d p) :
    ∃ a b : Int, v = .agg #[.int .u8 a, .int .u8 b] ∧ d = .agg [.lit (.int .u8 a), .lit (.int .u8 b)] ∧ p = [] ∧ (Lit.int .u8 a).wf = true ∧ (Lit.int .u8 b).wf = true :=
  open_array2 Tryd.underlying38 arrCells u8Cells Tryd.underlying5 hv h
set_option maxRecDepth 100000 in
theorem shut_u82 {H : Type} {enc : TypeId × Value → H} {W : World} {base : Nat} {sp : Nat → Bool} {held : Bool} {a b : Int} (wa : (Lit.int .u8 a).wf = true) (wb : (Lit.int .u8 b).wf = true) :
    DataW.Trod enc Tryd.prog W base sp held 38 (.agg #[.int .u8 a, .int .u8 b]) (.agg [.lit (.int .u8 a), .lit (.int .u8 b)]) [] :=
  ⟨2, by simpa [Value.cells] using mk_array2 Tryd.underlying38 arrCells u8Cells Tryd.underlying5 wa wb⟩
/-- a box of three cells that may be stored into -/
def Bt (W : World) (b : Nat) (x y z : Int) : Prop :=
  (W.cell? ⟨b, 0, none⟩ = some (.int .i64 x) ∧ W.cell? ⟨b, 1, none⟩ = some (.int .i64 y) ∧ W.cell? ⟨b, 2, none⟩ = some (.int .i64 z)) ∧
  W.frozen? ⟨b, 0, none⟩ = false ∧ W.frozen? ⟨b, 1, none⟩ = false ∧ W.frozen? ⟨b, 2, none⟩ = false
theorem Bt.later {a b : World} {n : Nat} {x y z : Int} (h : Bt a n x y z) (g : G a b) : Bt b n x y z := by
  obtain ⟨⟨h0, h1, h2⟩, f0, f1, f2⟩ := h
  have l0 := cell_lt h0
  exact ⟨⟨g.at h0, g.at h1, g.at h2⟩, (g.frozen (p := ⟨n, 0, none⟩) l0).trans f0, (g.frozen (p := ⟨n, 1, none⟩) l0).trans f1, (g.frozen (p := ⟨n, 2, none⟩) l0).trans f2⟩
theorem Bt.other {W : World} {b n : Nat} {x y z : Int} (h : Bt W n x y z) (hn : b ≠ n) (j : Nat) (v : Value) : Bt (W.setCell ⟨b, j, none⟩ v) n x y z := by
  obtain ⟨⟨h0, h1, h2⟩, f0, f1, f2⟩ := h
  refine ⟨⟨?_, ?_, ?_⟩, ?_, ?_, ?_⟩
  · rw [World.cell?_setCell_far _ _ _ _ hn]; exact h0
  · rw [World.cell?_setCell_far _ _ _ _ hn]; exact h1
  · rw [World.cell?_setCell_far _ _ _ _ hn]; exact h2
  · simp [go_sem, f0]
  · simp [go_sem, f1]
  · simp [go_sem, f2]
theorem Bt.set1 {W : World} {n : Nat} {x y z : Int} (h : Bt W n x y z) (v : Int) : Bt (W.setCell ⟨n, 1, none⟩ (.int .i64 v)) n x v z := by
  obtain ⟨⟨h0, h1, h2⟩, f0, f1, f2⟩ := h
  exact ⟨⟨by simp [go_sem, h0], by simp [go_sem, h1], by simp [go_sem, h2]⟩, by simp [go_sem, f0], by simp [go_sem, f1], by simp [go_sem, f2]⟩
theorem Bt.set2 {W : World} {n : Nat} {x y z : Int} (h : Bt W n x y z) (v : Int) : Bt (W.setCell ⟨n, 2, none⟩ (.int .i64 v)) n x y v := by
  obtain ⟨⟨h0, h1, h2⟩, f0, f1, f2⟩ := h
  exact ⟨⟨by simp [go_sem, h0], by simp [go_sem, h1], by simp [go_sem, h2]⟩, by simp [go_sem, f0], by simp [go_sem, f1], by simp [go_sem, f2]⟩
end Go.Proofs.YtnakfeamimeioaaDoor
