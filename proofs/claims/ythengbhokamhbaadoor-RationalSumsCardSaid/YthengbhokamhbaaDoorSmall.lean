import Derived.Test.YthengbhokamhbaaDoorOf
import Derived.Test.YthengbhokamhbaaDoorShelf
import Derived.Deep.RegionHeld3
/-! The operations of fractions: of the program (numerator, denominator less 1) and of the reference (numerator, denominator). -/
namespace Go.Proofs.YthengbhokamhbaaDoor
open Go.RowKit QM

/-- a fraction of the program: numerator, denominator less 1, in lowest terms and within the limits -/
structure Cn (N O : Int) : Prop where
  n1 : -1073741824 ≤ N
  n2 : N ≤ 1073741824
  o1 : 0 ≤ O
  o2 : O ≤ 1073741823
  co : Nat.gcd N.natAbs (O + 1).natAbs = 1

theorem cn_of (n d : Int) : Cn (oN n d) (oD n d - 1) := by
  have a := oN_bd n d
  have b := oD_bd n d
  have c := o_cop n d
  exact ⟨a.1, a.2, by omega, by omega, by rw [Int.sub_add_cancel]; exact c⟩
theorem cn_zero : Cn 0 0 := ⟨by omega, by omega, by omega, by omega, by decide⟩
theorem cn_neg {N O : Int} (h : Cn N O) : Cn (-N) O := ⟨by have := h.n2; omega, by have := h.n1; omega, h.o1, h.o2, by rw [Int.natAbs_neg]; exact h.co⟩

/-- products of numbers within the limits -/
theorem prod_bd {a b : Int} (h1 : -1073741825 ≤ a) (h2 : a ≤ 1073741825) (h3 : -1073741825 ≤ b) (h4 : b ≤ 1073741825) : -1152921506754330625 ≤ a * b ∧ a * b ≤ 1152921506754330625 := by
  have k : (a * b).natAbs ≤ 1073741825 * 1073741825 := by
    rw [Int.natAbs_mul]; exact Nat.mul_le_mul (by omega) (by omega)
  omega

/-- a cell of an old block, and its mark, behind a step that makes new blocks alone -/
theorem G.cell {a b : World} (h : G a b) {p : Addr} (hp : p.block < a.heap.size) : b.cell? p = a.cell? p := Below.cell h hp
theorem G.frozen {a b : World} (h : G a b) {p : Addr} (hp : p.block < a.heap.size) : b.frozen? p = a.frozen? p := Below.frozen h hp

/-- two boxes and a result's slot, behind steps that make new blocks alone -/
theorem three_cells {w w1 : World} {a0 a1 b0 b1 c0 c1 : Value} {t : TypeId} (h : G (((w.alloc (.cells #[a0, a1] t)).alloc (.cells #[b0, b1] t)).alloc (.cells #[c0, c1] t)) w1) :
    (w1.cell? ⟨w.heap.size, 0, none⟩ = some a0 ∧ w1.cell? ⟨w.heap.size, 1, none⟩ = some a1 ∧ w1.cell? ⟨w.heap.size + 1, 0, none⟩ = some b0 ∧ w1.cell? ⟨w.heap.size + 1, 1, none⟩ = some b1) ∧
    w1.cell? ⟨w.heap.size + 1 + 1, 0, none⟩ = some c0 ∧ w1.cell? ⟨w.heap.size + 1 + 1, 1, none⟩ = some c1 ∧
    w1.frozen? ⟨w.heap.size + 1 + 1, 0, none⟩ = false ∧ w1.frozen? ⟨w.heap.size + 1 + 1, 1, none⟩ = false ∧ w.heap.size + 1 + 1 < w1.heap.size := by
  have hz := h.size
  simp at hz
  refine ⟨⟨?_, ?_, ?_, ?_⟩, ?_, ?_, ?_, ?_, by omega⟩
  · rw [h.cell (by simp; omega)]; go_cell
  · rw [h.cell (by simp; omega)]; go_cell
  · rw [h.cell (by simp)]; go_cell
  · rw [h.cell (by simp)]; go_cell
  · rw [h.cell (by simp)]; go_cell
  · rw [h.cell (by simp)]; go_cell
  · rw [h.frozen (by simp)]; simp [go_sem]
  · rw [h.frozen (by simp)]; simp [go_sem]

theorem Den_any (N O : Int) (w : World) (h1 : 0 ≤ O) (h2 : O ≤ 1073741823) :
    Calls Tryd.prog 15 #[.agg #[.int .i64 N, .int .i64 O]] w fun e w' => e = .returned (.int .i64 (O + 1)) ∧ w.alloc (.cells #[.int .i64 N, .int .i64 O] 27) = w' := by
  go_enter Tryd.func15, Tryd.ntmps15
  go_wp2
  go_ret
  exact ⟨rfl, rfl⟩

end Go.Proofs.YthengbhokamhbaaDoor
