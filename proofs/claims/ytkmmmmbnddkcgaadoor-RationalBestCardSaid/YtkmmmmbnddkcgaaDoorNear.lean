import Derived.Test.YtkmmmmbnddkcgaaDoorArr2
import Derived.Deep.QuietTactic
import Derived.BigQuiet
/-! The reference's near: which of two fractions is nearer. -/
namespace Go.Proofs.YtkmmmmbnddkcgaaDoor
open Go.RowKit QM QB
attribute [local go_sem] World.cell?_alloc_some

theorem far_in {u c : Int} (h1 : -4398046511104 ≤ u) (h2 : u ≤ 4398046511104) (h3 : 1 ≤ c) (h4 : c ≤ 64) : -281474976710656 ≤ u * c ∧ u * c ≤ 281474976710656 := by
  have k : (u * c).natAbs ≤ 4398046511104 * 64 := by
    rw [Int.natAbs_mul]; exact Nat.mul_le_mul (by omega) (by omega)
  omega
theorem ret_bool {a b : Bool} (h : a = b) : Ending.returned (.bool a) = .returned (.bool b) := by rw [h]

set_option maxRecDepth 20000 in
set_option maxHeartbeats 1600000 in
theorem near_any (N D k j p q : Int) (w : World) (b1 : -1099511627776 ≤ N * j ∧ N * j ≤ 1099511627776) (b2 : -1099511627776 ≤ k * D ∧ k * D ≤ 1099511627776)
    (b3 : -1099511627776 ≤ N * q ∧ N * q ≤ 1099511627776) (b4 : -1099511627776 ≤ p * D ∧ p * D ≤ 1099511627776) (hj : 1 ≤ j ∧ j ≤ 64) (hq : 1 ≤ q ∧ q ≤ 64) :
    Calls Tryd.prog 59 #[.agg #[.int .i64 N, .int .i64 D], .agg #[.int .i64 k, .int .i64 j], .agg #[.int .i64 p, .int .i64 q]] w fun e w' => e = .returned (.bool (decide (Nr N D k j p q))) ∧ G w w' := by
  obtain ⟨u, hu⟩ : ∃ u : Int, N * j - k * D = u := ⟨_, rfl⟩
  obtain ⟨v, hv⟩ : ∃ v : Int, N * q - p * D = v := ⟨_, rfl⟩
  have c1 : -4398046511104 ≤ u ∧ u ≤ 4398046511104 := by omega
  have c2 : -4398046511104 ≤ v ∧ v ≤ 4398046511104 := by omega
  have d1 := @far_in u q c1.1 c1.2 hq.1 hq.2
  have d2 := @far_in (-u) q (by omega) (by omega) hq.1 hq.2
  have d3 := @far_in v j c2.1 c2.2 hj.1 hj.2
  have d4 := @far_in (-v) j (by omega) (by omega) hj.1 hj.2
  have q1 := IntWalk.i64_in (N * j) (by omega)
  have q2 := IntWalk.i64_in (k * D) (by omega)
  have q3 := IntWalk.i64_in (N * q) (by omega)
  have q4 := IntWalk.i64_in (p * D) (by omega)
  have q5 := IntWalk.i64_in u (by omega)
  have q6 := IntWalk.i64_in v (by omega)
  have q7 := IntWalk.i64_in (-u) (by omega)
  have q8 := IntWalk.i64_in (-v) (by omega)
  have q9 := IntWalk.i64_in (u * q) (by omega)
  have q10 := IntWalk.i64_in (-u * q) (by omega)
  have q11 := IntWalk.i64_in (v * j) (by omega)
  have q12 := IntWalk.i64_in (-v * j) (by omega)
  have HR : Hid (Nr N D k j p q ↔ ab u * q < ab v * j) := by unfold Hid Nr; rw [hu, hv]
  clear b1 b2 b3 b4 c1 c2 d1 d2 d3 d4 hj hq
  by_cases s1 : u < 0 <;> by_cases s2 : v < 0
  · have a1 : Hid (ab u = -u) := by unfold Hid ab; rw [if_pos s1]
    have a2 : Hid (ab v = -v) := by unfold Hid ab; rw [if_pos s2]
    go_enter Tryd.func59, Tryd.ntmps59
    go_wp2_with fail
    go_quiet (fail)
    go_wp2
    go_ret
    refine ⟨ret_bool ?_, by (repeat' (first | (with_reducible exact G.refl _) | (with_reducible assumption) | (with_reducible refine G.drewN ?_ _) | (with_reducible refine G.drew ?_) | (with_reducible refine G.alloc ?_ _) | (with_reducible refine G.setCell ?_ (by first | (with_reducible exact Nat.le_refl _) | (simp; done) | (simp; omega) | omega) _) | (with_reducible refine G.trans ?_ (by assumption))))⟩
    rw [decide_eq_decide, HR.out, a1.out, a2.out]
  · have a1 : Hid (ab u = -u) := by unfold Hid ab; rw [if_pos s1]
    have a2 : Hid (ab v = v) := by unfold Hid ab; rw [if_neg s2]
    go_enter Tryd.func59, Tryd.ntmps59
    go_wp2_with fail
    go_quiet (fail)
    go_wp2
    go_ret
    refine ⟨ret_bool ?_, by (repeat' (first | (with_reducible exact G.refl _) | (with_reducible assumption) | (with_reducible refine G.drewN ?_ _) | (with_reducible refine G.drew ?_) | (with_reducible refine G.alloc ?_ _) | (with_reducible refine G.setCell ?_ (by first | (with_reducible exact Nat.le_refl _) | (simp; done) | (simp; omega) | omega) _) | (with_reducible refine G.trans ?_ (by assumption))))⟩
    rw [decide_eq_decide, HR.out, a1.out, a2.out]
  · have a1 : Hid (ab u = u) := by unfold Hid ab; rw [if_neg s1]
    have a2 : Hid (ab v = -v) := by unfold Hid ab; rw [if_pos s2]
    go_enter Tryd.func59, Tryd.ntmps59
    go_wp2_with fail
    go_quiet (fail)
    go_wp2
    go_ret
    refine ⟨ret_bool ?_, by (repeat' (first | (with_reducible exact G.refl _) | (with_reducible assumption) | (with_reducible refine G.drewN ?_ _) | (with_reducible refine G.drew ?_) | (with_reducible refine G.alloc ?_ _) | (with_reducible refine G.setCell ?_ (by first | (with_reducible exact Nat.le_refl _) | (simp; done) | (simp; omega) | omega) _) | (with_reducible refine G.trans ?_ (by assumption))))⟩
    rw [decide_eq_decide, HR.out, a1.out, a2.out]
  · have a1 : Hid (ab u = u) := by unfold Hid ab; rw [if_neg s1]
    have a2 : Hid (ab v = v) := by unfold Hid ab; rw [if_neg s2]
    go_enter Tryd.func59, Tryd.ntmps59
    go_wp2_with fail
    go_quiet (fail)
    go_wp2
    go_ret
    refine ⟨ret_bool ?_, by (repeat' (first | (with_reducible exact G.refl _) | (with_reducible assumption) | (with_reducible refine G.drewN ?_ _) | (with_reducible refine G.drew ?_) | (with_reducible refine G.alloc ?_ _) | (with_reducible refine G.setCell ?_ (by first | (with_reducible exact Nat.le_refl _) | (simp; done) | (simp; omega) | omega) _) | (with_reducible refine G.trans ?_ (by assumption))))⟩
    rw [decide_eq_decide, HR.out, a1.out, a2.out]
end Go.Proofs.YtkmmmmbnddkcgaaDoor
