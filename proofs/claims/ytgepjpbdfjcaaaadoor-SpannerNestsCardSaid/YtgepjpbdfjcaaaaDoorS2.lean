import Derived.Test.YtgepjpbdfjcaaaaDoorS1
/-! Spanners: what is proper; places; groups, further. -/
namespace Go.Proofs.YtgepjpbdfjcaaaaDoor
open Go.RowKit
attribute [local go_sem] World.cell?_alloc_some

set_option maxHeartbeats 3200000 in
theorem sProper_any (x : Sp) (w : World) : Calls Tryd.prog 14 #[.agg #[.int .i64 x.k, .int .i64 x.f.m, .int .i64 x.f.a, .int .i64 x.f.s, .int .i64 x.f.v, .int .i64 x.t.m, .int .i64 x.t.a, .int .i64 x.t.s, .int .i64 x.t.v]] w fun e w' => e = .returned (.int .i64 (prS x)) ∧ G w w' := by
  obtain ⟨k, ⟨fm, fa, fs, fv⟩, ⟨tm, ta, ts, tv⟩⟩ := x
  obtain ⟨R, hR⟩ : ∃ z : Int, Hid (z = prS ⟨k, ⟨fm, fa, fs, fv⟩, ⟨tm, ta, ts, tv⟩⟩) := ⟨_, rfl⟩
  rw [← hR.out]
  dsimp only
  by_cases hs : fs = ts
  · subst hs
    go_enter Tryd.func14, Tryd.ntmps14
    go_wp2_with fail
    refine (isKind_any _ _).mono ?_
    rintro e w1 ⟨rfl, rfl⟩
    go_wp2_with fail
    any_goals (go_ret; exact ⟨ret_int (by rw [hR.out]; unfold prS Tog; grind), by (repeat' (first | (with_reducible exact G.refl _) | (with_reducible assumption) | (with_reducible refine G.drewN ?_ _) | (with_reducible refine G.drew ?_) | (with_reducible refine G.alloc ?_ _) | (with_reducible refine G.setCell ?_ (by first | (with_reducible exact Nat.le_refl _) | (simp; done) | (simp; omega) | omega) _) | (with_reducible refine G.trans ?_ (by assumption))))⟩)
    refine (inRange_any ⟨fm, fa, fs, fv⟩ _).mono ?_
    rintro e w1 ⟨rfl, hG1⟩
    have b1 := B9.made (x := ⟨k, ⟨fm, fa, fs, fv⟩, ⟨tm, ta, fs, tv⟩⟩) rfl hG1
    have B1 := Lib.hid b1
    obtain ⟨x0, x1, x2, x3, x4, x5, x6, x7, x8⟩ := b1
    dsimp only at x0 x1 x2 x3 x4 x5 x6 x7 x8
    go_wp2_with fail
    any_goals (go_ret; exact ⟨ret_int (by rw [hR.out]; unfold prS Tog; grind), by (repeat' (first | (with_reducible exact G.refl _) | (with_reducible assumption) | (with_reducible refine G.drewN ?_ _) | (with_reducible refine G.drew ?_) | (with_reducible refine G.alloc ?_ _) | (with_reducible refine G.setCell ?_ (by first | (with_reducible exact Nat.le_refl _) | (simp; done) | (simp; omega) | omega) _) | (with_reducible refine G.trans ?_ (by assumption))))⟩)
    refine (inRange_any ⟨tm, ta, fs, tv⟩ _).mono ?_
    rintro e w2 ⟨rfl, hG2⟩
    clear x0 x1 x2 x3 x4 x5 x6 x7 x8
    have b2 := B1.out.later hG2
    have B2 := Lib.hid b2
    obtain ⟨x0, x1, x2, x3, x4, x5, x6, x7, x8⟩ := b2
    dsimp only at x0 x1 x2 x3 x4 x5 x6 x7 x8
    go_wp2_with fail
    any_goals (go_ret; exact ⟨ret_int (by rw [hR.out]; unfold prS Tog; grind), by (repeat' (first | (with_reducible exact G.refl _) | (with_reducible assumption) | (with_reducible refine G.drewN ?_ _) | (with_reducible refine G.drew ?_) | (with_reducible refine G.alloc ?_ _) | (with_reducible refine G.setCell ?_ (by first | (with_reducible exact Nat.le_refl _) | (simp; done) | (simp; omega) | omega) _) | (with_reducible refine G.trans ?_ (by assumption))))⟩)
    refine (ofVoice_any _ _).mono ?_
    rintro e w3 ⟨rfl, rfl⟩
    go_wp2_with fail
    any_goals (go_ret; exact ⟨ret_int (by rw [hR.out]; unfold prS Tog; grind), by (repeat' (first | (with_reducible exact G.refl _) | (with_reducible assumption) | (with_reducible refine G.drewN ?_ _) | (with_reducible refine G.drew ?_) | (with_reducible refine G.alloc ?_ _) | (with_reducible refine G.setCell ?_ (by first | (with_reducible exact Nat.le_refl _) | (simp; done) | (simp; omega) | omega) _) | (with_reducible refine G.trans ?_ (by assumption))))⟩)
    all_goals
      refine (sCompare_any ⟨fm, fa, fs, fv⟩ ⟨tm, ta, fs, tv⟩ _).mono ?_
      rintro e w4 ⟨rfl, hG4⟩
      go_wp2_with fail
      all_goals (go_ret; exact ⟨ret_int (by rw [hR.out]; unfold prS Tog; grind), by (repeat' (first | (with_reducible exact G.refl _) | (with_reducible assumption) | (with_reducible refine G.drewN ?_ _) | (with_reducible refine G.drew ?_) | (with_reducible refine G.alloc ?_ _) | (with_reducible refine G.setCell ?_ (by first | (with_reducible exact Nat.le_refl _) | (simp; done) | (simp; omega) | omega) _) | (with_reducible refine G.trans ?_ (by assumption))))⟩)
  · have e1 : (fs != ts) = true := bne_iff_ne.2 hs
    have e2 : (fs == ts) = false := beq_false_of_ne hs
    go_enter Tryd.func14, Tryd.ntmps14
    go_wp2_with fail
    refine (isKind_any _ _).mono ?_
    rintro e w1 ⟨rfl, rfl⟩
    go_wp2_with fail
    any_goals (go_ret; exact ⟨ret_int (by rw [hR.out]; unfold prS Tog; grind), by (repeat' (first | (with_reducible exact G.refl _) | (with_reducible assumption) | (with_reducible refine G.drewN ?_ _) | (with_reducible refine G.drew ?_) | (with_reducible refine G.alloc ?_ _) | (with_reducible refine G.setCell ?_ (by first | (with_reducible exact Nat.le_refl _) | (simp; done) | (simp; omega) | omega) _) | (with_reducible refine G.trans ?_ (by assumption))))⟩)
    refine (inRange_any ⟨fm, fa, fs, fv⟩ _).mono ?_
    rintro e w1 ⟨rfl, hG1⟩
    have b1 := B9.made (x := ⟨k, ⟨fm, fa, fs, fv⟩, ⟨tm, ta, ts, tv⟩⟩) rfl hG1
    have B1 := Lib.hid b1
    obtain ⟨x0, x1, x2, x3, x4, x5, x6, x7, x8⟩ := b1
    dsimp only at x0 x1 x2 x3 x4 x5 x6 x7 x8
    go_wp2_with fail
    any_goals (go_ret; exact ⟨ret_int (by rw [hR.out]; unfold prS Tog; grind), by (repeat' (first | (with_reducible exact G.refl _) | (with_reducible assumption) | (with_reducible refine G.drewN ?_ _) | (with_reducible refine G.drew ?_) | (with_reducible refine G.alloc ?_ _) | (with_reducible refine G.setCell ?_ (by first | (with_reducible exact Nat.le_refl _) | (simp; done) | (simp; omega) | omega) _) | (with_reducible refine G.trans ?_ (by assumption))))⟩)
    refine (inRange_any ⟨tm, ta, ts, tv⟩ _).mono ?_
    rintro e w2 ⟨rfl, hG2⟩
    clear x0 x1 x2 x3 x4 x5 x6 x7 x8
    have b2 := B1.out.later hG2
    have B2 := Lib.hid b2
    obtain ⟨x0, x1, x2, x3, x4, x5, x6, x7, x8⟩ := b2
    dsimp only at x0 x1 x2 x3 x4 x5 x6 x7 x8
    go_wp2_with fail
    all_goals (go_ret; exact ⟨ret_int (by rw [hR.out]; unfold prS Tog; grind), by (repeat' (first | (with_reducible exact G.refl _) | (with_reducible assumption) | (with_reducible refine G.drewN ?_ _) | (with_reducible refine G.drew ?_) | (with_reducible refine G.alloc ?_ _) | (with_reducible refine G.setCell ?_ (by first | (with_reducible exact Nat.le_refl _) | (simp; done) | (simp; omega) | omega) _) | (with_reducible refine G.trans ?_ (by assumption))))⟩)
end Go.Proofs.YtgepjpbdfjcaaaaDoor
