import Derived.Test.YtgepjpbdfjcaaaaDoorS1
/-! Spanners: what is proper; places; groups, further. -/
namespace Go.Proofs.YtgepjpbdfjcaaaaDoor
open Go.RowKit
attribute [local go_sem] World.cell?_alloc_some

set_option maxHeartbeats 3200000 in
theorem within_any (x y : Sp) (w : World) : Calls Tryd.prog 65 #[.agg #[.int .i64 x.k, .int .i64 x.f.m, .int .i64 x.f.a, .int .i64 x.f.s, .int .i64 x.f.v, .int .i64 x.t.m, .int .i64 x.t.a, .int .i64 x.t.s, .int .i64 x.t.v], .agg #[.int .i64 y.k, .int .i64 y.f.m, .int .i64 y.f.a, .int .i64 y.f.s, .int .i64 y.f.v, .int .i64 y.t.m, .int .i64 y.t.a, .int .i64 y.t.s, .int .i64 y.t.v]] w fun e w' => e = .returned (.bool (decide (Wi x y))) ∧ G w w' := by
  obtain ⟨R, hR⟩ : ∃ z : Bool, Hid (z = decide (Wi x y)) := ⟨_, rfl⟩
  rw [← hR.out]
  go_enter Tryd.func65, Tryd.ntmps65
  go_wp2_with fail
  refine (sCompare_any x.f y.f _).mono ?_
  rintro e w1 ⟨rfl, hG1⟩
  obtain ⟨b1, b2⟩ := B9.made2 rfl rfl hG1
  obtain ⟨x0, x1, x2, x3, x4, x5, x6, x7, x8⟩ := b1
  obtain ⟨y0, y1, y2, y3, y4, y5, y6, y7, y8⟩ := b2
  go_wp2_with fail
  any_goals (go_ret; exact ⟨ret_bool (by rw [hR.out]; unfold Wi; grind), by (repeat' (first | (with_reducible exact G.refl _) | (with_reducible assumption) | (with_reducible refine G.drewN ?_ _) | (with_reducible refine G.drew ?_) | (with_reducible refine G.alloc ?_ _) | (with_reducible refine G.setCell ?_ (by first | (with_reducible exact Nat.le_refl _) | (simp; done) | (simp; omega) | omega) _) | (with_reducible refine G.trans ?_ (by assumption))))⟩)
  refine (sCompare_any x.t y.t _).mono ?_
  rintro e w2 ⟨rfl, hG2⟩
  go_wp2_with fail
  go_ret
  exact ⟨ret_bool (by rw [hR.out]; unfold Wi; grind), by (repeat' (first | (with_reducible exact G.refl _) | (with_reducible assumption) | (with_reducible refine G.drewN ?_ _) | (with_reducible refine G.drew ?_) | (with_reducible refine G.alloc ?_ _) | (with_reducible refine G.setCell ?_ (by first | (with_reducible exact Nat.le_refl _) | (simp; done) | (simp; omega) | omega) _) | (with_reducible refine G.trans ?_ (by assumption))))⟩
set_option maxHeartbeats 3200000 in
theorem rWithin_any (x y : Sp) (w : World) : Calls Tryd.prog 26 #[.agg #[.int .i64 x.k, .int .i64 x.f.m, .int .i64 x.f.a, .int .i64 x.f.s, .int .i64 x.f.v, .int .i64 x.t.m, .int .i64 x.t.a, .int .i64 x.t.s, .int .i64 x.t.v], .agg #[.int .i64 y.k, .int .i64 y.f.m, .int .i64 y.f.a, .int .i64 y.f.s, .int .i64 y.f.v, .int .i64 y.t.m, .int .i64 y.t.a, .int .i64 y.t.s, .int .i64 y.t.v]] w fun e w' => e = .returned (.bool (decide (Wi x y))) ∧ G w w' := by
  obtain ⟨R, hR⟩ : ∃ z : Bool, Hid (z = decide (Wi x y)) := ⟨_, rfl⟩
  rw [← hR.out]
  go_enter Tryd.func26, Tryd.ntmps26
  go_wp2_with fail
  refine (rCompare_any x.f y.f _).mono ?_
  rintro e w1 ⟨rfl, hG1⟩
  obtain ⟨b1, b2⟩ := B9.made2 rfl rfl hG1
  obtain ⟨x0, x1, x2, x3, x4, x5, x6, x7, x8⟩ := b1
  obtain ⟨y0, y1, y2, y3, y4, y5, y6, y7, y8⟩ := b2
  go_wp2_with fail
  any_goals (go_ret; exact ⟨ret_bool (by rw [hR.out]; unfold Wi; grind), by (repeat' (first | (with_reducible exact G.refl _) | (with_reducible assumption) | (with_reducible refine G.drewN ?_ _) | (with_reducible refine G.drew ?_) | (with_reducible refine G.alloc ?_ _) | (with_reducible refine G.setCell ?_ (by first | (with_reducible exact Nat.le_refl _) | (simp; done) | (simp; omega) | omega) _) | (with_reducible refine G.trans ?_ (by assumption))))⟩)
  refine (rCompare_any x.t y.t _).mono ?_
  rintro e w2 ⟨rfl, hG2⟩
  go_wp2_with fail
  go_ret
  exact ⟨ret_bool (by rw [hR.out]; unfold Wi; grind), by (repeat' (first | (with_reducible exact G.refl _) | (with_reducible assumption) | (with_reducible refine G.drewN ?_ _) | (with_reducible refine G.drew ?_) | (with_reducible refine G.alloc ?_ _) | (with_reducible refine G.setCell ?_ (by first | (with_reducible exact Nat.le_refl _) | (simp; done) | (simp; omega) | omega) _) | (with_reducible refine G.trans ?_ (by assumption))))⟩
set_option maxHeartbeats 3200000 in
theorem overlap_any (x y : Sp) (w : World) : Calls Tryd.prog 61 #[.agg #[.int .i64 x.k, .int .i64 x.f.m, .int .i64 x.f.a, .int .i64 x.f.s, .int .i64 x.f.v, .int .i64 x.t.m, .int .i64 x.t.a, .int .i64 x.t.s, .int .i64 x.t.v], .agg #[.int .i64 y.k, .int .i64 y.f.m, .int .i64 y.f.a, .int .i64 y.f.s, .int .i64 y.f.v, .int .i64 y.t.m, .int .i64 y.t.a, .int .i64 y.t.s, .int .i64 y.t.v]] w fun e w' => e = .returned (.bool (decide (Ovl x y))) ∧ G w w' := by
  obtain ⟨R, hR⟩ : ∃ z : Bool, Hid (z = decide (Ovl x y)) := ⟨_, rfl⟩
  rw [← hR.out]
  go_enter Tryd.func61, Tryd.ntmps61
  go_wp2_with fail
  refine (sCompare_any x.t y.f _).mono ?_
  rintro e w1 ⟨rfl, hG1⟩
  obtain ⟨b1, b2⟩ := B9.made2 rfl rfl hG1
  obtain ⟨x0, x1, x2, x3, x4, x5, x6, x7, x8⟩ := b1
  obtain ⟨y0, y1, y2, y3, y4, y5, y6, y7, y8⟩ := b2
  go_wp2_with fail
  any_goals (go_ret; exact ⟨ret_bool (by rw [hR.out]; unfold Ovl; grind), by (repeat' (first | (with_reducible exact G.refl _) | (with_reducible assumption) | (with_reducible refine G.drewN ?_ _) | (with_reducible refine G.drew ?_) | (with_reducible refine G.alloc ?_ _) | (with_reducible refine G.setCell ?_ (by first | (with_reducible exact Nat.le_refl _) | (simp; done) | (simp; omega) | omega) _) | (with_reducible refine G.trans ?_ (by assumption))))⟩)
  refine (sCompare_any y.t x.f _).mono ?_
  rintro e w2 ⟨rfl, hG2⟩
  go_wp2_with fail
  go_ret
  exact ⟨ret_bool (by rw [hR.out]; unfold Ovl; grind), by (repeat' (first | (with_reducible exact G.refl _) | (with_reducible assumption) | (with_reducible refine G.drewN ?_ _) | (with_reducible refine G.drew ?_) | (with_reducible refine G.alloc ?_ _) | (with_reducible refine G.setCell ?_ (by first | (with_reducible exact Nat.le_refl _) | (simp; done) | (simp; omega) | omega) _) | (with_reducible refine G.trans ?_ (by assumption))))⟩
set_option maxHeartbeats 3200000 in
theorem touch_any (x y : Sp) (w : World) : Calls Tryd.prog 62 #[.agg #[.int .i64 x.k, .int .i64 x.f.m, .int .i64 x.f.a, .int .i64 x.f.s, .int .i64 x.f.v, .int .i64 x.t.m, .int .i64 x.t.a, .int .i64 x.t.s, .int .i64 x.t.v], .agg #[.int .i64 y.k, .int .i64 y.f.m, .int .i64 y.f.a, .int .i64 y.f.s, .int .i64 y.f.v, .int .i64 y.t.m, .int .i64 y.t.a, .int .i64 y.t.s, .int .i64 y.t.v]] w fun e w' => e = .returned (.bool (decide (Tou x y))) ∧ G w w' := by
  obtain ⟨R, hR⟩ : ∃ z : Bool, Hid (z = decide (Tou x y)) := ⟨_, rfl⟩
  rw [← hR.out]
  go_enter Tryd.func62, Tryd.ntmps62
  go_wp2_with fail
  refine (sCompare_any x.t y.f _).mono ?_
  rintro e w1 ⟨rfl, hG1⟩
  obtain ⟨b1, b2⟩ := B9.made2 rfl rfl hG1
  obtain ⟨x0, x1, x2, x3, x4, x5, x6, x7, x8⟩ := b1
  obtain ⟨y0, y1, y2, y3, y4, y5, y6, y7, y8⟩ := b2
  go_wp2_with fail
  any_goals (go_ret; exact ⟨ret_bool (by rw [hR.out]; unfold Tou; grind), by (repeat' (first | (with_reducible exact G.refl _) | (with_reducible assumption) | (with_reducible refine G.drewN ?_ _) | (with_reducible refine G.drew ?_) | (with_reducible refine G.alloc ?_ _) | (with_reducible refine G.setCell ?_ (by first | (with_reducible exact Nat.le_refl _) | (simp; done) | (simp; omega) | omega) _) | (with_reducible refine G.trans ?_ (by assumption))))⟩)
  refine (sCompare_any y.t x.f _).mono ?_
  rintro e w2 ⟨rfl, hG2⟩
  go_wp2_with fail
  go_ret
  exact ⟨ret_bool (by rw [hR.out]; unfold Tou; grind), by (repeat' (first | (with_reducible exact G.refl _) | (with_reducible assumption) | (with_reducible refine G.drewN ?_ _) | (with_reducible refine G.drew ?_) | (with_reducible refine G.alloc ?_ _) | (with_reducible refine G.setCell ?_ (by first | (with_reducible exact Nat.le_refl _) | (simp; done) | (simp; omega) | omega) _) | (with_reducible refine G.trans ?_ (by assumption))))⟩
end Go.Proofs.YtgepjpbdfjcaaaaDoor
