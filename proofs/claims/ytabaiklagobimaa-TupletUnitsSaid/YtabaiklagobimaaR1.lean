import Derived.Test.YtabaiklagobimaaT4
/-! Tuplets: the reference's Check. -/
namespace Go.Proofs.Ytabaiklagobimaa
open Go.RowKit
attribute [local go_sem] World.cell?_alloc_some

set_option maxHeartbeats 1600000 in
theorem rIn_any (f c a n e : Int) (w : World) (h0 : -9223372036854775808 ≤ f + c) (h1 : f + c ≤ 9223372036854775807) : Calls Try.prog 23 #[.agg #[.int .i64 f, .int .i64 c, .int .i64 a, .int .i64 n], .int .i64 e] w fun x w' => x = .returned (.bool (decide (InT ⟨f, c, a, n⟩ e))) ∧ G w w' := by
  have q1 := IntWalk.i64_in (f + c) (by omega)
  have HI := Lib.hid (show InT ⟨f, c, a, n⟩ e ↔ f ≤ e ∧ e < f + c from Iff.rfl)
  clear h0 h1
  obtain ⟨R, hR⟩ : ∃ z : Bool, Hid (z = decide (InT ⟨f, c, a, n⟩ e)) := ⟨_, rfl⟩
  rw [← hR.out]
  by_cases h : f ≤ e
  · have HR := Lib.hid (show R = decide (e < f + c) by rw [hR.out]; exact decide_eq_decide.2 (HI.out.trans ⟨fun k => k.2, fun k => ⟨h, k⟩⟩))
    go_enter Try.func23, Try.ntmps23
    go_wp2_with fail
    go_ret
    exact ⟨by rw [HR.out]; first | done | rfl | simp, by (repeat' (first | (with_reducible exact G.refl _) | (with_reducible assumption) | (with_reducible refine G.drewN ?_ _) | (with_reducible refine G.drew ?_) | (with_reducible refine G.alloc ?_ _) | (with_reducible refine G.setCell ?_ (by first | (with_reducible exact Nat.le_refl _) | (simp; done) | (simp; omega) | omega) _) | (with_reducible refine G.trans ?_ (by assumption))))⟩
  · have HR := Lib.hid (show R = false by rw [hR.out]; exact decide_eq_false (fun k => h (HI.out.1 k).1))
    go_enter Try.func23, Try.ntmps23
    go_wp2_with fail
    go_ret
    exact ⟨by rw [HR.out]; first | done | rfl, by (repeat' (first | (with_reducible exact G.refl _) | (with_reducible assumption) | (with_reducible refine G.drewN ?_ _) | (with_reducible refine G.drew ?_) | (with_reducible refine G.alloc ?_ _) | (with_reducible refine G.setCell ?_ (by first | (with_reducible exact Nat.le_refl _) | (simp; done) | (simp; omega) | omega) _) | (with_reducible refine G.trans ?_ (by assumption))))⟩
set_option maxHeartbeats 1600000 in
theorem rWithin_any (f c a n f' c' a' n' : Int) (w : World) (h0 : -9223372036854775808 ≤ f + c ∧ f + c ≤ 9223372036854775807) (h1 : -9223372036854775808 ≤ f' + c' ∧ f' + c' ≤ 9223372036854775807) :
    Calls Try.prog 31 #[.agg #[.int .i64 f, .int .i64 c, .int .i64 a, .int .i64 n], .agg #[.int .i64 f', .int .i64 c', .int .i64 a', .int .i64 n']] w fun x w' => x = .returned (.bool (decide (Wi ⟨f, c, a, n⟩ ⟨f', c', a', n'⟩))) ∧ G w w' := by
  have q1 := IntWalk.i64_in (f + c) (by omega)
  have q2 := IntWalk.i64_in (f' + c') (by omega)
  have HI := Lib.hid (show Wi ⟨f, c, a, n⟩ ⟨f', c', a', n'⟩ ↔ f' ≤ f ∧ f + c ≤ f' + c' from Iff.rfl)
  clear h0 h1
  obtain ⟨R, hR⟩ : ∃ z : Bool, Hid (z = decide (Wi ⟨f, c, a, n⟩ ⟨f', c', a', n'⟩)) := ⟨_, rfl⟩
  rw [← hR.out]
  by_cases h : f' ≤ f
  · have HR := Lib.hid (show R = decide (f + c ≤ f' + c') by rw [hR.out]; exact decide_eq_decide.2 (HI.out.trans ⟨fun k => k.2, fun k => ⟨h, k⟩⟩))
    go_enter Try.func31, Try.ntmps31
    go_wp2_with fail
    go_ret
    exact ⟨by rw [HR.out]; first | done | rfl | simp, by (repeat' (first | (with_reducible exact G.refl _) | (with_reducible assumption) | (with_reducible refine G.drewN ?_ _) | (with_reducible refine G.drew ?_) | (with_reducible refine G.alloc ?_ _) | (with_reducible refine G.setCell ?_ (by first | (with_reducible exact Nat.le_refl _) | (simp; done) | (simp; omega) | omega) _) | (with_reducible refine G.trans ?_ (by assumption))))⟩
  · have HR := Lib.hid (show R = false by rw [hR.out]; exact decide_eq_false (fun k => h (HI.out.1 k).1))
    go_enter Try.func31, Try.ntmps31
    go_wp2_with fail
    go_ret
    exact ⟨by rw [HR.out]; first | done | rfl, by (repeat' (first | (with_reducible exact G.refl _) | (with_reducible assumption) | (with_reducible refine G.drewN ?_ _) | (with_reducible refine G.drew ?_) | (with_reducible refine G.alloc ?_ _) | (with_reducible refine G.setCell ?_ (by first | (with_reducible exact Nat.le_refl _) | (simp; done) | (simp; omega) | omega) _) | (with_reducible refine G.trans ?_ (by assumption))))⟩
set_option maxHeartbeats 1600000 in
theorem rAfter_any (f c a n f' c' a' n' : Int) (w : World) :
    Calls Try.prog 42 #[.agg #[.int .i64 f, .int .i64 c, .int .i64 a, .int .i64 n], .agg #[.int .i64 f', .int .i64 c', .int .i64 a', .int .i64 n']] w fun x w' => x = .returned (.bool (decide (Aft ⟨f, c, a, n⟩ ⟨f', c', a', n'⟩))) ∧ G w w' := by
  have HI := Lib.hid (show Aft ⟨f, c, a, n⟩ ⟨f', c', a', n'⟩ ↔ f < f' ∨ (f = f' ∧ c' < c) from Iff.rfl)
  obtain ⟨R, hR⟩ : ∃ z : Bool, Hid (z = decide (Aft ⟨f, c, a, n⟩ ⟨f', c', a', n'⟩)) := ⟨_, rfl⟩
  rw [← hR.out]
  by_cases h : f < f'
  · have HR := Lib.hid (show R = true by rw [hR.out]; exact decide_eq_true (HI.out.2 (.inl h)))
    go_enter Try.func42, Try.ntmps42
    go_wp2_with fail
    go_ret
    exact ⟨by rw [HR.out]; first | done | rfl, by (repeat' (first | (with_reducible exact G.refl _) | (with_reducible assumption) | (with_reducible refine G.drewN ?_ _) | (with_reducible refine G.drew ?_) | (with_reducible refine G.alloc ?_ _) | (with_reducible refine G.setCell ?_ (by first | (with_reducible exact Nat.le_refl _) | (simp; done) | (simp; omega) | omega) _) | (with_reducible refine G.trans ?_ (by assumption))))⟩
  by_cases h2 : f = f'
  · subst h2
    have HR := Lib.hid (show R = decide (c' < c) by rw [hR.out]; exact decide_eq_decide.2 (HI.out.trans ⟨fun k => by omega, fun k => .inr ⟨rfl, k⟩⟩))
    go_enter Try.func42, Try.ntmps42
    go_wp2_with fail
    go_ret
    exact ⟨by rw [HR.out]; first | done | rfl | simp, by (repeat' (first | (with_reducible exact G.refl _) | (with_reducible assumption) | (with_reducible refine G.drewN ?_ _) | (with_reducible refine G.drew ?_) | (with_reducible refine G.alloc ?_ _) | (with_reducible refine G.setCell ?_ (by first | (with_reducible exact Nat.le_refl _) | (simp; done) | (simp; omega) | omega) _) | (with_reducible refine G.trans ?_ (by assumption))))⟩
  · have HR := Lib.hid (show R = false by rw [hR.out]; exact decide_eq_false (fun k => by have := HI.out.1 k; omega))
    have e1 : (f == f') = false := beq_false_of_ne h2
    go_enter Try.func42, Try.ntmps42
    go_wp2_with fail
    go_ret
    exact ⟨by rw [HR.out]; first | done | rfl, by (repeat' (first | (with_reducible exact G.refl _) | (with_reducible assumption) | (with_reducible refine G.drewN ?_ _) | (with_reducible refine G.drew ?_) | (with_reducible refine G.alloc ?_ _) | (with_reducible refine G.setCell ?_ (by first | (with_reducible exact Nat.le_refl _) | (simp; done) | (simp; omega) | omega) _) | (with_reducible refine G.trans ?_ (by assumption))))⟩
end Go.Proofs.Ytabaiklagobimaa
