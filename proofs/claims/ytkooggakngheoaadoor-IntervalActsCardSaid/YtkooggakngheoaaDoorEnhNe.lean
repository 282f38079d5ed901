import Derived.Test.YtkooggakngheoaaDoorEnh
/-! There is a pitch with each number. -/
namespace Go.Proofs.YtkooggakngheoaaDoor
theorem enh_ne0 : ((List.range 128).all fun n => decide (enh (n : Int) (alts 5) ≠ [])) = true := by decide +kernel
theorem enh_ne {n : Int} (h0 : 0 ≤ n) (h1 : n ≤ 127) : enh n (alts 5) ≠ [] := by
  have h := List.all_eq_true.1 enh_ne0 n.toNat (List.mem_range.2 (by omega))
  rw [show ((n.toNat : Nat) : Int) = n by omega] at h
  exact of_decide_eq_true h
end Go.Proofs.YtkooggakngheoaaDoor
