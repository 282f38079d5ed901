import Derived.Test.YtgepjpbdfjcaaaaDoorS4
import Derived.Laws.EntriesVeiled
import Derived.BigRegion
/-! Spanners: what is proper; places; groups, further. -/
namespace Go.Proofs.YtgepjpbdfjcaaaaDoor
open Go.RowKit
attribute [local go_sem] World.cell?_alloc_some

/-- what a group is, as a value -/
def gv (x : Sp) : Int := if OfV x.k then x.f.v else 0
set_option maxHeartbeats 3200000 in
theorem groupOf_any (x : Sp) (w : World) : Calls Tryd.prog 46 #[.agg #[.int .i64 x.k, .int .i64 x.f.m, .int .i64 x.f.a, .int .i64 x.f.s, .int .i64 x.f.v, .int .i64 x.t.m, .int .i64 x.t.a, .int .i64 x.t.s, .int .i64 x.t.v]] w fun e w' => e = .returned (.agg #[.int .i64 (gk x.k), .int .i64 x.f.s, .int .i64 (gv x)]) ∧ G w w' := by
  obtain ⟨k, ⟨fm, fa, fs, fv⟩, ⟨tm, ta, ts, tv⟩⟩ := x
  obtain ⟨R, hR⟩ : ∃ z : Int, Hid (z = gk k) := ⟨_, rfl⟩
  obtain ⟨V, hV⟩ : ∃ z : Int, Hid (z = gv ⟨k, ⟨fm, fa, fs, fv⟩, ⟨tm, ta, ts, tv⟩⟩) := ⟨_, rfl⟩
  dsimp only
  rw [← hR.out, ← hV.out]
  have HV := Lib.hid (show ∀ z, (z = (if OfV k then fv else 0)) → z = V from fun z h => by rw [hV.out, h]; rfl)
  by_cases k3 : k = 3
  · subst k3
    have HR := Lib.hid (show R = 2 from hR.out)
    go_enter Tryd.func46, Tryd.ntmps46
    go_wp2_with fail
    refine (ofVoice_any _ _).mono ?_
    rintro e w1 ⟨rfl, rfl⟩
    go_wp2_with fail
    all_goals
      refine bodyPost_ret (v := .agg #[.int .i64 2, .int .i64 fs, .int .i64 V]) (by simp [results, Tryd.results46, go_sem]; try (refine HV.out _ ?_; first | exact (if_pos (by assumption)).symm | exact (if_neg (by assumption)).symm)) rfl ⟨by rw [HR.out], by (repeat' (first | (with_reducible exact G.refl _) | (with_reducible assumption) | (with_reducible refine G.drewN ?_ _) | (with_reducible refine G.drew ?_) | (with_reducible refine G.alloc ?_ _) | (with_reducible refine G.setCell ?_ (by first | (with_reducible exact Nat.le_refl _) | (simp; done) | (simp; omega) | omega) _) | (with_reducible refine G.trans ?_ (by assumption))))⟩
  by_cases k5 : k = 5
  · subst k5
    have HR := Lib.hid (show R = 4 from hR.out)
    go_enter Tryd.func46, Tryd.ntmps46
    go_wp2_with fail
    refine (ofVoice_any _ _).mono ?_
    rintro e w1 ⟨rfl, rfl⟩
    go_wp2_with fail
    all_goals
      refine bodyPost_ret (v := .agg #[.int .i64 4, .int .i64 fs, .int .i64 V]) (by simp [results, Tryd.results46, go_sem]; try (refine HV.out _ ?_; first | exact (if_pos (by assumption)).symm | exact (if_neg (by assumption)).symm)) rfl ⟨by rw [HR.out], by (repeat' (first | (with_reducible exact G.refl _) | (with_reducible assumption) | (with_reducible refine G.drewN ?_ _) | (with_reducible refine G.drew ?_) | (with_reducible refine G.alloc ?_ _) | (with_reducible refine G.setCell ?_ (by first | (with_reducible exact Nat.le_refl _) | (simp; done) | (simp; omega) | omega) _) | (with_reducible refine G.trans ?_ (by assumption))))⟩
  · have e1 : (k == 3) = false := beq_false_of_ne k3
    have e2 : (k == 5) = false := beq_false_of_ne k5
    have HR := Lib.hid (show R = k by rw [hR.out]; unfold gk; rw [if_neg k3, if_neg k5])
    clear k3 k5
    go_enter Tryd.func46, Tryd.ntmps46
    go_wp2_with fail
    refine (ofVoice_any _ _).mono ?_
    rintro e w1 ⟨rfl, rfl⟩
    go_wp2_with fail
    all_goals
      refine bodyPost_ret (v := .agg #[.int .i64 k, .int .i64 fs, .int .i64 V]) (by simp [results, Tryd.results46, go_sem]; try (refine HV.out _ ?_; first | exact (if_pos (by assumption)).symm | exact (if_neg (by assumption)).symm)) rfl ⟨by rw [HR.out], by (repeat' (first | (with_reducible exact G.refl _) | (with_reducible assumption) | (with_reducible refine G.drewN ?_ _) | (with_reducible refine G.drew ?_) | (with_reducible refine G.alloc ?_ _) | (with_reducible refine G.setCell ?_ (by first | (with_reducible exact Nat.le_refl _) | (simp; done) | (simp; omega) | omega) _) | (with_reducible refine G.trans ?_ (by assumption))))⟩
def rl (k : Int) : Nat := if k = 1 then 60 else if k = 4 ∨ k = 5 ∨ k = 7 then 62 else 61
set_option maxHeartbeats 3200000 in
theorem rule_any (k : Int) (hk : Kd k) (w : World) : Calls Tryd.prog 47 #[.int .i64 k] w fun e w' => e = .returned (.func (.func (rl k)) #[] #[]) ∧ G w w' := by
  unfold Kd at hk
  rcases (by omega : k = 1 ∨ k = 2 ∨ k = 3 ∨ k = 4 ∨ k = 5 ∨ k = 6 ∨ k = 7) with rfl | rfl | rfl | rfl | rfl | rfl | rfl <;>
  · clear hk
    go_enter Tryd.func47, Tryd.ntmps47
    go_wp2_with fail
    go_ret
    exact ⟨by first | rfl | simp, by (repeat' (first | (with_reducible exact G.refl _) | (with_reducible assumption) | (with_reducible refine G.drewN ?_ _) | (with_reducible refine G.drew ?_) | (with_reducible refine G.alloc ?_ _) | (with_reducible refine G.setCell ?_ (by first | (with_reducible exact Nat.le_refl _) | (simp; done) | (simp; omega) | omega) _) | (with_reducible refine G.trans ?_ (by assumption))))⟩
end Go.Proofs.YtgepjpbdfjcaaaaDoor
