import Derived.Test.YtgepjpbdfjcaaaaDoorSL
/-! Spanners: what a span covers. -/
namespace Go.Proofs.YtgepjpbdfjcaaaaDoor
open Go.RowKit
attribute [local go_sem] World.cell?_alloc_some

/-- four cells of a place in a block -/
def B4 (w : World) (n : Nat) (p : Pl) : Prop := w.cell? ⟨n, 0, none⟩ = some (.int .i64 p.m) ∧ w.cell? ⟨n, 1, none⟩ = some (.int .i64 p.a) ∧ w.cell? ⟨n, 2, none⟩ = some (.int .i64 p.s) ∧ w.cell? ⟨n, 3, none⟩ = some (.int .i64 p.v)
theorem B4.later {w w' : World} {n : Nat} {p : Pl} (h : B4 w n p) (g : G w w') : B4 w' n p := ⟨g.at h.1, g.at h.2.1, g.at h.2.2.1, g.at h.2.2.2⟩
theorem B4.made {W w1 : World} {n : Nat} {p : Pl} {t : TypeId} (hs : W.heap.size = n) (h : G (W.alloc (.cells #[.int .i64 p.m, .int .i64 p.a, .int .i64 p.s, .int .i64 p.v] t)) w1) : B4 w1 n p := by
  subst hs
  refine ⟨?_, ?_, ?_, ?_⟩ <;> (rw [h.cell (by simp)]; go_cell)
theorem made94 {W w1 : World} {n m : Nat} {x : Sp} {p : Pl} {t t' : TypeId} (hs : W.heap.size = n) (hm : n + 1 = m) (h : G ((W.alloc (.cells #[.int .i64 x.k, .int .i64 x.f.m, .int .i64 x.f.a, .int .i64 x.f.s, .int .i64 x.f.v, .int .i64 x.t.m, .int .i64 x.t.a, .int .i64 x.t.s, .int .i64 x.t.v] t)).alloc (.cells #[.int .i64 p.m, .int .i64 p.a, .int .i64 p.s, .int .i64 p.v] t')) w1) : B9 w1 n x ∧ B4 w1 m p := by
  subst hs hm
  refine ⟨⟨?_, ?_, ?_, ?_, ?_, ?_, ?_, ?_, ?_⟩, ⟨?_, ?_, ?_, ?_⟩⟩ <;> (rw [h.cell (by simp; try omega)]; go_cell)
set_option maxHeartbeats 6400000 in
theorem covers_any (x : Sp) (p : Pl) (w : World) : Calls Tryd.prog 54 #[.agg #[.int .i64 x.k, .int .i64 x.f.m, .int .i64 x.f.a, .int .i64 x.f.s, .int .i64 x.f.v, .int .i64 x.t.m, .int .i64 x.t.a, .int .i64 x.t.s, .int .i64 x.t.v], .agg #[.int .i64 p.m, .int .i64 p.a, .int .i64 p.s, .int .i64 p.v]] w fun e w' => e = .returned (.bool (decide (Cov x p))) ∧ G w w' := by
  obtain ⟨R, hR⟩ : ∃ z : Bool, Hid (z = decide (Cov x p)) := ⟨_, rfl⟩
  rw [← hR.out]
  obtain ⟨k, ⟨fm, fa, fs, fv⟩, ⟨tm, ta, ts, tv⟩⟩ := x
  obtain ⟨pm, pa, ps, pv⟩ := p
  dsimp only
  by_cases hs : fs = ps
  · subst hs
    by_cases hv : fv = pv
    · subst hv
      go_enter Tryd.func54, Tryd.ntmps54
      go_wp2_with fail
      refine (ofVoice_any _ _).mono ?_
      rintro e w1 ⟨rfl, rfl⟩
      go_wp2_with fail
      all_goals
        refine (sCompare_any ⟨fm, fa, fs, fv⟩ ⟨pm, pa, fs, fv⟩ _).mono ?_
        rintro e w2 ⟨rfl, hG2⟩
        obtain ⟨⟨x0, x1, x2, x3, x4, x5, x6, x7, x8⟩, ⟨z0, z1, z2, z3⟩⟩ := made94 (x := (⟨k, ⟨fm, fa, fs, fv⟩, ⟨tm, ta, ts, tv⟩⟩ : Sp)) (p := (⟨pm, pa, fs, fv⟩ : Pl)) rfl rfl hG2
        dsimp only at x0 x1 x2 x3 x4 x5 x6 x7 x8 z0 z1 z2 z3
        go_wp2_with fail
        any_goals (go_ret; exact ⟨ret_bool (by rw [hR.out]; unfold Cov; dsimp only; grind), by (repeat' (first | (with_reducible exact G.refl _) | (with_reducible assumption) | (with_reducible refine G.drewN ?_ _) | (with_reducible refine G.drew ?_) | (with_reducible refine G.alloc ?_ _) | (with_reducible refine G.setCell ?_ (by first | (with_reducible exact Nat.le_refl _) | (simp; done) | (simp; omega) | omega) _) | (with_reducible refine G.trans ?_ (by assumption))))⟩)
        refine (sCompare_any ⟨pm, pa, fs, fv⟩ ⟨tm, ta, ts, tv⟩ _).mono ?_
        rintro e w3 ⟨rfl, hG3⟩
        go_wp2_with fail
        all_goals (go_ret; exact ⟨ret_bool (by rw [hR.out]; unfold Cov; dsimp only; grind), by (repeat' (first | (with_reducible exact G.refl _) | (with_reducible assumption) | (with_reducible refine G.drewN ?_ _) | (with_reducible refine G.drew ?_) | (with_reducible refine G.alloc ?_ _) | (with_reducible refine G.setCell ?_ (by first | (with_reducible exact Nat.le_refl _) | (simp; done) | (simp; omega) | omega) _) | (with_reducible refine G.trans ?_ (by assumption))))⟩)
    · have e1 : (fv != pv) = true := bne_iff_ne.2 hv
      have e2 : (fv == pv) = false := beq_false_of_ne hv
      go_enter Tryd.func54, Tryd.ntmps54
      go_wp2_with fail
      refine (ofVoice_any _ _).mono ?_
      rintro e w1 ⟨rfl, rfl⟩
      go_wp2_with fail
      any_goals (go_ret; exact ⟨ret_bool (by rw [hR.out]; unfold Cov; dsimp only; grind), by (repeat' (first | (with_reducible exact G.refl _) | (with_reducible assumption) | (with_reducible refine G.drewN ?_ _) | (with_reducible refine G.drew ?_) | (with_reducible refine G.alloc ?_ _) | (with_reducible refine G.setCell ?_ (by first | (with_reducible exact Nat.le_refl _) | (simp; done) | (simp; omega) | omega) _) | (with_reducible refine G.trans ?_ (by assumption))))⟩)
      all_goals
        refine (sCompare_any ⟨fm, fa, fs, fv⟩ ⟨pm, pa, fs, pv⟩ _).mono ?_
        rintro e w2 ⟨rfl, hG2⟩
        obtain ⟨⟨x0, x1, x2, x3, x4, x5, x6, x7, x8⟩, ⟨z0, z1, z2, z3⟩⟩ := made94 (x := (⟨k, ⟨fm, fa, fs, fv⟩, ⟨tm, ta, ts, tv⟩⟩ : Sp)) (p := (⟨pm, pa, fs, pv⟩ : Pl)) rfl rfl hG2
        dsimp only at x0 x1 x2 x3 x4 x5 x6 x7 x8 z0 z1 z2 z3
        go_wp2_with fail
        any_goals (go_ret; exact ⟨ret_bool (by rw [hR.out]; unfold Cov; dsimp only; grind), by (repeat' (first | (with_reducible exact G.refl _) | (with_reducible assumption) | (with_reducible refine G.drewN ?_ _) | (with_reducible refine G.drew ?_) | (with_reducible refine G.alloc ?_ _) | (with_reducible refine G.setCell ?_ (by first | (with_reducible exact Nat.le_refl _) | (simp; done) | (simp; omega) | omega) _) | (with_reducible refine G.trans ?_ (by assumption))))⟩)
        refine (sCompare_any ⟨pm, pa, fs, pv⟩ ⟨tm, ta, ts, tv⟩ _).mono ?_
        rintro e w3 ⟨rfl, hG3⟩
        go_wp2_with fail
        all_goals (go_ret; exact ⟨ret_bool (by rw [hR.out]; unfold Cov; dsimp only; grind), by (repeat' (first | (with_reducible exact G.refl _) | (with_reducible assumption) | (with_reducible refine G.drewN ?_ _) | (with_reducible refine G.drew ?_) | (with_reducible refine G.alloc ?_ _) | (with_reducible refine G.setCell ?_ (by first | (with_reducible exact Nat.le_refl _) | (simp; done) | (simp; omega) | omega) _) | (with_reducible refine G.trans ?_ (by assumption))))⟩)
  · have e1 : (fs != ps) = true := bne_iff_ne.2 hs
    have e2 : (fs == ps) = false := beq_false_of_ne hs
    go_enter Tryd.func54, Tryd.ntmps54
    go_wp2_with fail
    all_goals (go_ret; exact ⟨ret_bool (by rw [hR.out]; unfold Cov; dsimp only; grind), by (repeat' (first | (with_reducible exact G.refl _) | (with_reducible assumption) | (with_reducible refine G.drewN ?_ _) | (with_reducible refine G.drew ?_) | (with_reducible refine G.alloc ?_ _) | (with_reducible refine G.setCell ?_ (by first | (with_reducible exact Nat.le_refl _) | (simp; done) | (simp; omega) | omega) _) | (with_reducible refine G.trans ?_ (by assumption))))⟩)
end Go.Proofs.YtgepjpbdfjcaaaaDoor
