import Derived.Test.YtgepjpbdfjcaaaaDoorS7
import Derived.Test.YtgepjpbdfjcaaaaDoorS3
/-! Spanners: the reference's groups and conflicts. -/
namespace Go.Proofs.YtgepjpbdfjcaaaaDoor
open Go.RowKit
attribute [local go_sem] World.cell?_alloc_some

def grK (k : Int) : Int := if k = 1 then 1 else if k = 2 ∨ k = 3 then 2 else if k = 4 ∨ k = 5 then 3 else if k = 6 then 4 else if k = 7 then 5 else 0
set_option maxHeartbeats 3200000 in
theorem rgroup_any (k : Int) (w : World) : Calls Tryd.prog 45 #[.int .i64 k] w fun e w' => e = .returned (.int .i64 (grK k)) ∧ G w w' := by
  by_cases hk : 1 ≤ k ∧ k ≤ 7
  · rcases (by omega : k = 1 ∨ k = 2 ∨ k = 3 ∨ k = 4 ∨ k = 5 ∨ k = 6 ∨ k = 7) with rfl | rfl | rfl | rfl | rfl | rfl | rfl <;>
    · clear hk
      go_enter Tryd.func45, Tryd.ntmps45
      go_wp2_with fail
      go_ret
      exact ⟨by first | rfl | simp [grK], by (repeat' (first | (with_reducible exact G.refl _) | (with_reducible assumption) | (with_reducible refine G.drewN ?_ _) | (with_reducible refine G.drew ?_) | (with_reducible refine G.alloc ?_ _) | (with_reducible refine G.setCell ?_ (by first | (with_reducible exact Nat.le_refl _) | (simp; done) | (simp; omega) | omega) _) | (with_reducible refine G.trans ?_ (by assumption))))⟩
  · have HR := Lib.hid (show grK k = 0 by unfold grK; grind)
    have HK := Lib.hid hk
    rw [HR.out]
    by_cases h1 : k < 1
    · clear hk
      go_enter Tryd.func45, Tryd.ntmps45
      go_wp2_with fail
      go_ret
      exact ⟨by first | rfl | simp, by (repeat' (first | (with_reducible exact G.refl _) | (with_reducible assumption) | (with_reducible refine G.drewN ?_ _) | (with_reducible refine G.drew ?_) | (with_reducible refine G.alloc ?_ _) | (with_reducible refine G.setCell ?_ (by first | (with_reducible exact Nat.le_refl _) | (simp; done) | (simp; omega) | omega) _) | (with_reducible refine G.trans ?_ (by assumption))))⟩
    · have h2 : 7 < k := by omega
      clear hk
      go_enter Tryd.func45, Tryd.ntmps45
      go_wp2_with fail
      go_ret
      exact ⟨by first | rfl | simp, by (repeat' (first | (with_reducible exact G.refl _) | (with_reducible assumption) | (with_reducible refine G.drewN ?_ _) | (with_reducible refine G.drew ?_) | (with_reducible refine G.alloc ?_ _) | (with_reducible refine G.setCell ?_ (by first | (with_reducible exact Nat.le_refl _) | (simp; done) | (simp; omega) | omega) _) | (with_reducible refine G.trans ?_ (by assumption))))⟩
theorem gk_tab (a : Int) : (a = 1 ∧ gk a = 1 ∧ grK a = 1) ∨ (a = 2 ∧ gk a = 2 ∧ grK a = 2) ∨ (a = 3 ∧ gk a = 2 ∧ grK a = 2) ∨ (a = 4 ∧ gk a = 4 ∧ grK a = 3) ∨ (a = 5 ∧ gk a = 4 ∧ grK a = 3) ∨ (a = 6 ∧ gk a = 6 ∧ grK a = 4) ∨ (a = 7 ∧ gk a = 7 ∧ grK a = 5) ∨ ((a < 1 ∨ 7 < a) ∧ gk a = a ∧ grK a = 0) := by
  rcases (by omega : a = 1 ∨ a = 2 ∨ a = 3 ∨ a = 4 ∨ a = 5 ∨ a = 6 ∨ a = 7 ∨ (a < 1 ∨ 7 < a)) with rfl | rfl | rfl | rfl | rfl | rfl | rfl | h
  · exact .inl ⟨rfl, rfl, rfl⟩
  · exact .inr (.inl ⟨rfl, rfl, rfl⟩)
  · exact .inr (.inr (.inl ⟨rfl, rfl, rfl⟩))
  · exact .inr (.inr (.inr (.inl ⟨rfl, rfl, rfl⟩)))
  · exact .inr (.inr (.inr (.inr (.inl ⟨rfl, rfl, rfl⟩))))
  · exact .inr (.inr (.inr (.inr (.inr (.inl ⟨rfl, rfl, rfl⟩)))))
  · exact .inr (.inr (.inr (.inr (.inr (.inr (.inl ⟨rfl, rfl, rfl⟩))))))
  · refine .inr (.inr (.inr (.inr (.inr (.inr (.inr ⟨h, ?_, ?_⟩))))))
    · unfold gk; rw [if_neg (by omega), if_neg (by omega)]
    · unfold grK; rw [if_neg (by omega), if_neg (by omega), if_neg (by omega), if_neg (by omega), if_neg (by omega)]
theorem rg_iff (x y : Sp) : (Kd x.k ∧ Grp x y) ↔ (¬ grK x.k = 0 ∧ grK x.k = grK y.k ∧ x.f.s = y.f.s ∧ ((¬ grK x.k = 1 ∧ ¬ grK x.k = 5) ∨ x.f.v = y.f.v)) := by
  have h1 := gk_tab x.k
  have h2 := gk_tab y.k
  unfold Grp Kd OfV
  generalize gk x.k = a at *
  generalize gk y.k = b at *
  generalize grK x.k = c at *
  generalize grK y.k = d at *
  omega
set_option maxRecDepth 100000 in
set_option maxHeartbeats 6400000 in
theorem rGrouped_any (x y : Sp) (w : World) : Calls Tryd.prog 44 #[.agg #[.int .i64 x.k, .int .i64 x.f.m, .int .i64 x.f.a, .int .i64 x.f.s, .int .i64 x.f.v, .int .i64 x.t.m, .int .i64 x.t.a, .int .i64 x.t.s, .int .i64 x.t.v], .agg #[.int .i64 y.k, .int .i64 y.f.m, .int .i64 y.f.a, .int .i64 y.f.s, .int .i64 y.f.v, .int .i64 y.t.m, .int .i64 y.t.a, .int .i64 y.t.s, .int .i64 y.t.v]] w fun e w' => e = .returned (.bool (decide (Kd x.k ∧ Grp x y))) ∧ G w w' := by
  obtain ⟨R, hR⟩ : ∃ z : Bool, Hid (z = decide (Kd x.k ∧ Grp x y)) := ⟨_, rfl⟩
  rw [← hR.out]
  have HI := Lib.hid (rg_iff x y)
  obtain ⟨g, hg⟩ : ∃ z : Int, Hid (z = grK x.k) := ⟨_, rfl⟩
  obtain ⟨h, hh⟩ : ∃ z : Int, Hid (z = grK y.k) := ⟨_, rfl⟩
  have gb : G ((w.alloc (.cells #[.int .i64 x.k, .int .i64 x.f.m, .int .i64 x.f.a, .int .i64 x.f.s, .int .i64 x.f.v, .int .i64 x.t.m, .int .i64 x.t.a, .int .i64 x.t.s, .int .i64 x.t.v] 25)).alloc (.cells #[.int .i64 y.k, .int .i64 y.f.m, .int .i64 y.f.a, .int .i64 y.f.s, .int .i64 y.f.v, .int .i64 y.t.m, .int .i64 y.t.a, .int .i64 y.t.s, .int .i64 y.t.v] 25)) ((w.alloc (.cells #[.int .i64 x.k, .int .i64 x.f.m, .int .i64 x.f.a, .int .i64 x.f.s, .int .i64 x.f.v, .int .i64 x.t.m, .int .i64 x.t.a, .int .i64 x.t.s, .int .i64 x.t.v] 25)).alloc (.cells #[.int .i64 y.k, .int .i64 y.f.m, .int .i64 y.f.a, .int .i64 y.f.s, .int .i64 y.f.v, .int .i64 y.t.m, .int .i64 y.t.a, .int .i64 y.t.s, .int .i64 y.t.v] 25)) := G.refl _
  have bb := B9.made2 rfl rfl gb
  obtain ⟨⟨x0, x1, x2, x3, x4, x5, x6, x7, x8⟩, ⟨y0, y1, y2, y3, y4, y5, y6, y7, y8⟩⟩ := bb
  go_enter Tryd.func44, Tryd.ntmps44
  go_wp2_with fail
  refine (rgroup_any _ _).mono ?_
  rintro e w1 ⟨rfl, hG1⟩
  have gq := gb.trans (G.trans (by (repeat' (first | (with_reducible exact G.refl _) | (with_reducible refine G.drewN ?_ _) | (with_reducible refine G.drew ?_) | (with_reducible refine G.alloc ?_ _)))) hG1); clear gb; have gb := gq; clear x0 x1 x2 x3 x4 x5 x6 x7 x8 y0 y1 y2 y3 y4 y5 y6 y7 y8; obtain ⟨⟨x0, x1, x2, x3, x4, x5, x6, x7, x8⟩, ⟨y0, y1, y2, y3, y4, y5, y6, y7, y8⟩⟩ := B9.made2 rfl rfl gb
  rw [← hg.out]
  go_wp2_with fail
  any_goals (go_ret; exact ⟨ret_bool (by have h1 := HI.out; rw [← hg.out, ← hh.out] at h1; rw [hR.out]; grind), by (repeat' (first | (with_reducible exact G.refl _) | (with_reducible assumption) | (with_reducible refine G.drewN ?_ _) | (with_reducible refine G.drew ?_) | (with_reducible refine G.alloc ?_ _) | (with_reducible refine G.setCell ?_ (by first | (with_reducible exact Nat.le_refl _) | (simp; done) | (simp; omega) | omega) _) | (with_reducible refine G.trans ?_ (by assumption))))⟩)
  refine (rgroup_any _ _).mono ?_
  rintro e w2 ⟨rfl, hG2⟩
  have gq := gb.trans (G.trans (by (repeat' (first | (with_reducible exact G.refl _) | (with_reducible refine G.drewN ?_ _) | (with_reducible refine G.drew ?_) | (with_reducible refine G.alloc ?_ _)))) hG2); clear gb; have gb := gq; clear x0 x1 x2 x3 x4 x5 x6 x7 x8 y0 y1 y2 y3 y4 y5 y6 y7 y8; obtain ⟨⟨x0, x1, x2, x3, x4, x5, x6, x7, x8⟩, ⟨y0, y1, y2, y3, y4, y5, y6, y7, y8⟩⟩ := B9.made2 rfl rfl gb
  rw [← hh.out]
  go_wp2_with fail
  all_goals (go_ret; exact ⟨ret_bool (by have h1 := HI.out; rw [← hg.out, ← hh.out] at h1; rw [hR.out]; grind), by (repeat' (first | (with_reducible exact G.refl _) | (with_reducible assumption) | (with_reducible refine G.drewN ?_ _) | (with_reducible refine G.drew ?_) | (with_reducible refine G.alloc ?_ _) | (with_reducible refine G.setCell ?_ (by first | (with_reducible exact Nat.le_refl _) | (simp; done) | (simp; omega) | omega) _) | (with_reducible refine G.trans ?_ (by assumption))))⟩)
end Go.Proofs.YtgepjpbdfjcaaaaDoor
