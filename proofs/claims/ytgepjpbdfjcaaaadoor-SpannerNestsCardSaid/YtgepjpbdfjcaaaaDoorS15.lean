import Derived.Test.YtgepjpbdfjcaaaaDoorS14
/-! Spanners: what a span covers. -/
namespace Go.Proofs.YtgepjpbdfjcaaaaDoor
open Go.RowKit
attribute [local go_sem] World.cell?_alloc_some

set_option maxHeartbeats 6400000 in
theorem rCovers_any (x : Sp) (p : Pl) (w : World) : Calls Tryd.prog 25 #[.agg #[.int .i64 x.k, .int .i64 x.f.m, .int .i64 x.f.a, .int .i64 x.f.s, .int .i64 x.f.v, .int .i64 x.t.m, .int .i64 x.t.a, .int .i64 x.t.s, .int .i64 x.t.v], .agg #[.int .i64 p.m, .int .i64 p.a, .int .i64 p.s, .int .i64 p.v]] w fun e w' => e = .returned (.bool (decide (Cov x p))) ∧ G w w' := by
  obtain ⟨R, hR⟩ : ∃ z : Bool, Hid (z = decide (Cov x p)) := ⟨_, rfl⟩
  rw [← hR.out]
  obtain ⟨k, ⟨fm, fa, fs, fv⟩, ⟨tm, ta, ts, tv⟩⟩ := x
  obtain ⟨pm, pa, ps, pv⟩ := p
  dsimp only
  by_cases hs : fs = ps
  · subst hs
    by_cases hv : fv = pv
    · subst hv
      go_enter Tryd.func25, Tryd.ntmps25
      go_wp2_with fail
      all_goals
        refine (rCompare_any ⟨fm, fa, fs, fv⟩ ⟨pm, pa, fs, fv⟩ _).mono ?_
        rintro e w2 ⟨rfl, hG2⟩
        obtain ⟨⟨x0, x1, x2, x3, x4, x5, x6, x7, x8⟩, ⟨z0, z1, z2, z3⟩⟩ := made94 (x := (⟨_, ⟨fm, fa, fs, fv⟩, ⟨tm, ta, ts, tv⟩⟩ : Sp)) (p := (⟨pm, pa, fs, fv⟩ : Pl)) rfl rfl hG2
        dsimp only at x0 x1 x2 x3 x4 x5 x6 x7 x8 z0 z1 z2 z3
        go_wp2_with fail
        any_goals (go_ret; exact ⟨ret_bool (by rw [hR.out]; unfold Cov OfV; dsimp only; grind), by (repeat' (first | (with_reducible exact G.refl _) | (with_reducible assumption) | (with_reducible refine G.drewN ?_ _) | (with_reducible refine G.drew ?_) | (with_reducible refine G.alloc ?_ _) | (with_reducible refine G.setCell ?_ (by first | (with_reducible exact Nat.le_refl _) | (simp; done) | (simp; omega) | omega) _) | (with_reducible refine G.trans ?_ (by assumption))))⟩)
        refine (rCompare_any ⟨pm, pa, fs, fv⟩ ⟨tm, ta, ts, tv⟩ _).mono ?_
        rintro e w3 ⟨rfl, hG3⟩
        go_wp2_with fail
        all_goals (go_ret; exact ⟨ret_bool (by rw [hR.out]; unfold Cov OfV; dsimp only; grind), by (repeat' (first | (with_reducible exact G.refl _) | (with_reducible assumption) | (with_reducible refine G.drewN ?_ _) | (with_reducible refine G.drew ?_) | (with_reducible refine G.alloc ?_ _) | (with_reducible refine G.setCell ?_ (by first | (with_reducible exact Nat.le_refl _) | (simp; done) | (simp; omega) | omega) _) | (with_reducible refine G.trans ?_ (by assumption))))⟩)
    · have e1 : (fv != pv) = true := bne_iff_ne.2 hv
      have e2 : (fv == pv) = false := beq_false_of_ne hv
      go_enter Tryd.func25, Tryd.ntmps25
      go_wp2_with fail
      any_goals (go_ret; exact ⟨ret_bool (by rw [hR.out]; unfold Cov OfV; dsimp only; grind), by (repeat' (first | (with_reducible exact G.refl _) | (with_reducible assumption) | (with_reducible refine G.drewN ?_ _) | (with_reducible refine G.drew ?_) | (with_reducible refine G.alloc ?_ _) | (with_reducible refine G.setCell ?_ (by first | (with_reducible exact Nat.le_refl _) | (simp; done) | (simp; omega) | omega) _) | (with_reducible refine G.trans ?_ (by assumption))))⟩)
      all_goals
        refine (rCompare_any ⟨fm, fa, fs, fv⟩ ⟨pm, pa, fs, pv⟩ _).mono ?_
        rintro e w2 ⟨rfl, hG2⟩
        obtain ⟨⟨x0, x1, x2, x3, x4, x5, x6, x7, x8⟩, ⟨z0, z1, z2, z3⟩⟩ := made94 (x := (⟨_, ⟨fm, fa, fs, fv⟩, ⟨tm, ta, ts, tv⟩⟩ : Sp)) (p := (⟨pm, pa, fs, pv⟩ : Pl)) rfl rfl hG2
        dsimp only at x0 x1 x2 x3 x4 x5 x6 x7 x8 z0 z1 z2 z3
        go_wp2_with fail
        any_goals (go_ret; exact ⟨ret_bool (by rw [hR.out]; unfold Cov OfV; dsimp only; grind), by (repeat' (first | (with_reducible exact G.refl _) | (with_reducible assumption) | (with_reducible refine G.drewN ?_ _) | (with_reducible refine G.drew ?_) | (with_reducible refine G.alloc ?_ _) | (with_reducible refine G.setCell ?_ (by first | (with_reducible exact Nat.le_refl _) | (simp; done) | (simp; omega) | omega) _) | (with_reducible refine G.trans ?_ (by assumption))))⟩)
        refine (rCompare_any ⟨pm, pa, fs, pv⟩ ⟨tm, ta, ts, tv⟩ _).mono ?_
        rintro e w3 ⟨rfl, hG3⟩
        go_wp2_with fail
        all_goals (go_ret; exact ⟨ret_bool (by rw [hR.out]; unfold Cov OfV; dsimp only; grind), by (repeat' (first | (with_reducible exact G.refl _) | (with_reducible assumption) | (with_reducible refine G.drewN ?_ _) | (with_reducible refine G.drew ?_) | (with_reducible refine G.alloc ?_ _) | (with_reducible refine G.setCell ?_ (by first | (with_reducible exact Nat.le_refl _) | (simp; done) | (simp; omega) | omega) _) | (with_reducible refine G.trans ?_ (by assumption))))⟩)
  · have e1 : (fs != ps) = true := bne_iff_ne.2 hs
    have e2 : (fs == ps) = false := beq_false_of_ne hs
    go_enter Tryd.func25, Tryd.ntmps25
    go_wp2_with fail
    all_goals (go_ret; exact ⟨ret_bool (by rw [hR.out]; unfold Cov OfV; dsimp only; grind), by (repeat' (first | (with_reducible exact G.refl _) | (with_reducible assumption) | (with_reducible refine G.drewN ?_ _) | (with_reducible refine G.drew ?_) | (with_reducible refine G.alloc ?_ _) | (with_reducible refine G.setCell ?_ (by first | (with_reducible exact Nat.le_refl _) | (simp; done) | (simp; omega) | omega) _) | (with_reducible refine G.trans ?_ (by assumption))))⟩)
end Go.Proofs.YtgepjpbdfjcaaaaDoor
