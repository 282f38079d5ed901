import Derived.Test.YtkmmmmbnddkcgaaDoorArr
namespace Go.Proofs.YtkmmmmbnddkcgaaDoor
open Go.RowKit
/-- three boxes that are made one after the other, in later worlds -/
theorem trio_later {w w1 : World} {c0 c1 d0 d1 e0 e1 : Value} {t t' t2 : TypeId} (h : G (((w.alloc (.cells #[c0, c1] t)).alloc (.cells #[d0, d1] t')).alloc (.cells #[e0, e1] t2)) w1) :
    w1.cell? ⟨w.heap.size, 0, none⟩ = some c0 ∧ w1.cell? ⟨w.heap.size, 1, none⟩ = some c1 ∧ w1.cell? ⟨w.heap.size + 1, 0, none⟩ = some d0 ∧ w1.cell? ⟨w.heap.size + 1, 1, none⟩ = some d1 ∧ w1.cell? ⟨w.heap.size + 1 + 1, 0, none⟩ = some e0 ∧ w1.cell? ⟨w.heap.size + 1 + 1, 1, none⟩ = some e1 := by
  refine ⟨?_, ?_, ?_, ?_, ?_, ?_⟩
  · rw [h.cell (by simp; omega)]; go_cell
  · rw [h.cell (by simp; omega)]; go_cell
  · rw [h.cell (by simp)]; go_cell
  · rw [h.cell (by simp)]; go_cell
  · rw [h.cell (by simp)]; go_cell
  · rw [h.cell (by simp)]; go_cell
end Go.Proofs.YtkmmmmbnddkcgaaDoor
