import Derived.Test.YtipamoakeccecaaDoorCmp
/-! The reference's Compare. -/
namespace Go.Proofs.YtipamoakeccecaaDoor
open Go.RowKit
attribute [local go_sem] World.cell?_alloc_some

theorem cell_old {w : World} {o : Obj} {g off : Nat} {i : Option Nat} (h : g < w.heap.size) : (w.alloc o).cell? ⟨g, off, i⟩ = w.cell? ⟨g, off, i⟩ := (G.alloc (G.refl w) o).cell h
theorem frozen_old {w : World} {o : Obj} {g off : Nat} {i : Option Nat} (h : g < w.heap.size) : (w.alloc o).frozen? ⟨g, off, i⟩ = w.frozen? ⟨g, off, i⟩ := (G.alloc (G.refl w) o).frozen h
theorem six_later {w w1 : World} {a b c x y z : Value} {t t' : TypeId} (h : G ((w.alloc (.cells #[a, b, c] t)).alloc (.cells #[x, y, z] t')) w1) :
    w1.cell? ⟨w.heap.size, 0, none⟩ = some a ∧ w1.cell? ⟨w.heap.size, 1, none⟩ = some b ∧ w1.cell? ⟨w.heap.size, 2, none⟩ = some c ∧ w1.cell? ⟨w.heap.size + 1, 0, none⟩ = some x ∧ w1.cell? ⟨w.heap.size + 1, 1, none⟩ = some y ∧ w1.cell? ⟨w.heap.size + 1, 2, none⟩ = some z :=
  have k := tri2_later h
  ⟨k.1.1, k.1.2.1, k.1.2.2, k.2.1.1, k.2.1.2.1, k.2.1.2.2⟩
/-- a block of two cells, with its marks -/
def B2 (w : World) (g : Nat) (p q : Value) : Prop := w.cell? ⟨g, 0, none⟩ = some p ∧ w.cell? ⟨g, 1, none⟩ = some q ∧ w.frozen? ⟨g, 0, none⟩ = false ∧ w.frozen? ⟨g, 1, none⟩ = false
theorem B2.new (w : World) (p q : Value) (t : TypeId) : B2 (w.alloc (.cells #[p, q] t)) w.heap.size p q := by
  refine ⟨?_, ?_, ?_, ?_⟩ <;> simp [go_sem]
theorem B2.new' {w : World} {g : Nat} {p q : Value} {t : TypeId} (hs : w.heap.size = g) : B2 (w.alloc (.cells #[p, q] t)) g p q := hs ▸ B2.new w p q t
theorem B2.later {w w' : World} {g : Nat} {p q : Value} (h : B2 w g p q) (k : G w w') : B2 w' g p q :=
  ⟨k.at h.1, k.at h.2.1, by rw [k.frozen (cell_lt h.1)]; exact h.2.2.1, by rw [k.frozen (cell_lt h.2.1)]; exact h.2.2.2⟩
theorem B2.drew {w : World} {g : Nat} {p q : Value} (h : B2 w g p q) : B2 w.drew g p q := h.later (G.drew (G.refl _))
theorem B2.alloc {w : World} {g : Nat} {p q : Value} (h : B2 w g p q) (o : Obj) : B2 (w.alloc o) g p q := h.later (G.alloc (G.refl _) o)
theorem B2.lt {w : World} {g : Nat} {p q : Value} (h : B2 w g p q) : g < w.heap.size := cell_lt h.1
theorem B2.set {w : World} {g : Nat} {p q : Value} (h : B2 w g p q) (u v : Value) : B2 ((w.setCell ⟨g, 0, none⟩ u).setCell ⟨g, 1, none⟩ v) g u v := by
  refine ⟨?_, ?_, ?_, ?_⟩ <;> simp [go_sem, h.1, h.2.1, h.2.2.1, h.2.2.2]
theorem B2.other {w : World} {g j : Nat} {p q r t : Value} (h : B2 w g p q) (_ : B2 w j r t) (hne : g ≠ j) (u v : Value) : B2 ((w.setCell ⟨j, 0, none⟩ u).setCell ⟨j, 1, none⟩ v) g p q := by
  have e := hne.symm
  refine ⟨?_, ?_, ?_, ?_⟩ <;> simp [go_sem, h.1, h.2.1, h.2.2.1, h.2.2.2, *]
end Go.Proofs.YtipamoakeccecaaDoor
