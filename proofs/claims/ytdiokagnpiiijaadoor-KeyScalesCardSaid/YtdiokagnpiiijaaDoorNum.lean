import Derived.Test.YtdiokagnpiiijaaDoorScale
import Derived.BigRegion
/-! The reference's number of a pitch. -/
namespace Go.Proofs.YtdiokagnpiiijaaDoor
open Go.RowKit
attribute [local go_sem] World.cell?_alloc_some

def H (s : Int) : Int := if s = 0 then 0 else if s = 1 then 2 else if s = 2 then 4 else if s = 3 then 5 else if s = 4 then 7 else if s = 5 then 9 else 11
def nb (p : P3) : Int := H p.1 + p.2.1 + 12 * (p.2.2 + 1)
theorem H_bd (s : Int) : 0 ≤ H s ∧ H s ≤ 11 := by unfold H; (repeat' split) <;> omega
def Bd (p : P3) : Prop := (0 ≤ p.1 ∧ p.1 ≤ 6) ∧ (-1 ≤ p.2.1 ∧ p.2.1 ≤ 1) ∧ -1 ≤ p.2.2 ∧ p.2.2 ≤ 10
theorem nb_bd {p : P3} (h : Bd p) : -1 ≤ nb p ∧ nb p ≤ 144 := by
  have := H_bd p.1
  obtain ⟨_, ⟨_, _⟩, _, _⟩ := h
  unfold nb; omega

set_option maxHeartbeats 3200000 in
theorem rNumber_any (s a o : Int) (w : World) (h : Bd (s, a, o)) :
    Calls Tryd.prog 27 #[.agg #[.int .i64 s, .int .i64 a, .int .i64 o]] w fun e w' => e = .returned (.int .i64 (nb (s, a, o))) ∧ G w w' := by
  obtain ⟨⟨s0, s1⟩, ⟨a0, a1⟩, o0, o1⟩ := h
  dsimp only at s0 s1 a0 a1 o0 o1
  have hb := H_bd s
  obtain ⟨hs, HS⟩ : ∃ z : Int, Hid (z = H s) := ⟨_, rfl⟩
  rw [← HS.out] at hb
  have q1 := IntWalk.i64_in (o + 1) (by omega)
  have q2 := IntWalk.i64_in (12 * (o + 1)) (by omega)
  have q3 := IntWalk.i64_in (hs + a) (by omega)
  have q4 := IntWalk.i64_in (hs + a + 12 * (o + 1)) (by omega)
  have e : nb (s, a, o) = hs + a + 12 * (o + 1) := by unfold nb; rw [HS.out]
  rw [e]
  clear e
  rcases seven s0 s1 with rfl | rfl | rfl | rfl | rfl | rfl | rfl
  all_goals
    obtain rfl := HS.out
    simp only [H, Int.reduceEq, if_true, if_false] at q3 q4 hb ⊢
    go_enter Tryd.func27, Tryd.ntmps27
    go_wp2_with fail
    go_big_region
    go_wp2
    go_ret
    exact ⟨ret_int (by omega), by (repeat' (first | (with_reducible exact G.refl _) | (with_reducible assumption) | (with_reducible refine G.drewN ?_ _) | (with_reducible refine G.drew ?_) | (with_reducible refine G.alloc ?_ _) | (with_reducible refine G.setCell ?_ (by first | (with_reducible exact Nat.le_refl _) | (simp; done) | (simp; omega) | omega) _) | (with_reducible refine G.trans ?_ (by assumption))))⟩
end Go.Proofs.YtdiokagnpiiijaaDoor
