import Derived.Test.YtfmjjbcmgkhgaaaDoorREnh
/-! The two lists of the pitches with a number are the same. -/
namespace Go.Proofs.YtfmjjbcmgkhgaaaDoor
set_option maxRecDepth 100000 in
theorem enh_eq0 : ((List.range 128).all fun n => rE (n : Int) (allO 11) == enh (n : Int) (alts 5)) = true := by decide +kernel
theorem enh_eq {n : Int} (h0 : 0 ≤ n) (h1 : n ≤ 127) : rE n (allO 11) = enh n (alts 5) := by
  have h := List.all_eq_true.1 enh_eq0 n.toNat (List.mem_range.2 (by omega))
  rw [show ((n.toNat : Nat) : Int) = n by omega] at h
  exact beq_iff_eq.1 h
end Go.Proofs.YtfmjjbcmgkhgaaaDoor
