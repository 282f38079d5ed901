import Derived.Test.YtkooggakngheoaaDoorKnown
import Derived.Test.YtkooggakngheoaaDoorLaid
import Derived.Test.YtkooggakngheoaaDoorREx
import Derived.Test.YtkooggakngheoaaDoorIv14
/-! For the laws: boxes of arguments in later worlds. -/
namespace Go.Proofs.YtkooggakngheoaaDoor
open Go.RowKit
attribute [local go_sem] World.cell?_alloc_some
/-- a block of three cells and one of two, in a later world -/
theorem tdL_later {w w1 : World} {a b c d e : Value} {t t' : TypeId} (h : G ((w.alloc (.cells #[a, b, c] t)).alloc (.cells #[d, e] t')) w1) :
    (w1.cell? ⟨w.heap.size, 0, none⟩ = some a ∧ w1.cell? ⟨w.heap.size, 1, none⟩ = some b ∧ w1.cell? ⟨w.heap.size, 2, none⟩ = some c) ∧
    w1.cell? ⟨w.heap.size + 1, 0, none⟩ = some d ∧ w1.cell? ⟨w.heap.size + 1, 1, none⟩ = some e := by
  refine ⟨⟨?_, ?_, ?_⟩, ?_, ?_⟩
  · rw [h.cell (by simp; omega)]; go_cell
  · rw [h.cell (by simp; omega)]; go_cell
  · rw [h.cell (by simp; omega)]; go_cell
  · rw [h.cell (by simp)]; go_cell
  · rw [h.cell (by simp)]; go_cell
/-- two blocks of three cells -/
theorem ttL_later {w w1 : World} {a b c d e f : Value} {t t' : TypeId} (h : G ((w.alloc (.cells #[a, b, c] t)).alloc (.cells #[d, e, f] t')) w1) :
    (w1.cell? ⟨w.heap.size, 0, none⟩ = some a ∧ w1.cell? ⟨w.heap.size, 1, none⟩ = some b ∧ w1.cell? ⟨w.heap.size, 2, none⟩ = some c) ∧
    w1.cell? ⟨w.heap.size + 1, 0, none⟩ = some d ∧ w1.cell? ⟨w.heap.size + 1, 1, none⟩ = some e ∧ w1.cell? ⟨w.heap.size + 1, 2, none⟩ = some f := by
  refine ⟨⟨?_, ?_, ?_⟩, ?_, ?_, ?_⟩
  · rw [h.cell (by simp; omega)]; go_cell
  · rw [h.cell (by simp; omega)]; go_cell
  · rw [h.cell (by simp; omega)]; go_cell
  · rw [h.cell (by simp)]; go_cell
  · rw [h.cell (by simp)]; go_cell
  · rw [h.cell (by simp)]; go_cell
/-- a block of three cells and two of two -/
theorem tddL_later {w w1 : World} {a b c d e f g : Value} {t t' t'' : TypeId} (h : G (((w.alloc (.cells #[a, b, c] t)).alloc (.cells #[d, e] t')).alloc (.cells #[f, g] t'')) w1) :
    (w1.cell? ⟨w.heap.size, 0, none⟩ = some a ∧ w1.cell? ⟨w.heap.size, 1, none⟩ = some b ∧ w1.cell? ⟨w.heap.size, 2, none⟩ = some c) ∧
    (w1.cell? ⟨w.heap.size + 1, 0, none⟩ = some d ∧ w1.cell? ⟨w.heap.size + 1, 1, none⟩ = some e) ∧ w1.cell? ⟨w.heap.size + 1 + 1, 0, none⟩ = some f ∧ w1.cell? ⟨w.heap.size + 1 + 1, 1, none⟩ = some g := by
  refine ⟨⟨?_, ?_, ?_⟩, ⟨?_, ?_⟩, ?_, ?_⟩
  · rw [h.cell (by simp <;> omega)]; go_cell
  · rw [h.cell (by simp <;> omega)]; go_cell
  · rw [h.cell (by simp <;> omega)]; go_cell
  · rw [h.cell (by simp)]; go_cell
  · rw [h.cell (by simp)]; go_cell
  · rw [h.cell (by simp)]; go_cell
  · rw [h.cell (by simp)]; go_cell
end Go.Proofs.YtkooggakngheoaaDoor
