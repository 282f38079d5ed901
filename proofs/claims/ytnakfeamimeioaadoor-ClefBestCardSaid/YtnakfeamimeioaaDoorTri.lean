import Derived.Test.YtnakfeamimeioaaDoorBase
/-! A block of three cells, in a later world. -/
namespace Go.Proofs.YtnakfeamimeioaaDoor
open Go.RowKit
theorem tri_at {W w1 : World} {n : Nat} {a b c : Value} {t : TypeId} (hs : W.heap.size = n) (h : G (W.alloc (.cells #[a, b, c] t)) w1) :
    w1.cell? ⟨n, 0, none⟩ = some a ∧ w1.cell? ⟨n, 1, none⟩ = some b ∧ w1.cell? ⟨n, 2, none⟩ = some c := by
  subst hs; exact tri_later h
theorem trif_at {W w1 : World} {n : Nat} {a b c : Value} {t : TypeId} (hs : W.heap.size = n) (h : G (W.alloc (.cells #[a, b, c] t)) w1) :
    w1.frozen? ⟨n, 0, none⟩ = false ∧ w1.frozen? ⟨n, 1, none⟩ = false ∧ w1.frozen? ⟨n, 2, none⟩ = false := by
  subst hs; exact (trif_later h).2
theorem tmod_of7 {x : Int} (h : (7 * x).tmod 12 = 0) : x.tmod 12 = 0 := by
  have h1 : (12 : Int) ∣ 7 * x := Int.dvd_of_tmod_eq_zero h
  exact Int.tmod_eq_zero_of_dvd (by omega)
end Go.Proofs.YtnakfeamimeioaaDoor
