import Derived.Test.YtdpidcmalcfjaaaDoorRIs
/-! The reference's sum of intervals. -/
namespace Go.Proofs.YtdpidcmalcfjaaaDoor
open Go.RowKit
attribute [local go_sem] World.cell?_alloc_some

set_option maxRecDepth 20000 in
set_option maxHeartbeats 3200000 in
theorem rSum_ok (a b c d g : Int) (w : World) (h : Iv a b) (h2 : Iv c d) (hg : g = 1 ∨ g = -1) :
    Calls Tryd.prog 14 #[.agg #[.int .i64 a, .int .i64 b], .agg #[.int .i64 c, .int .i64 d], .int .i64 g] w fun e w' => e = .returned (.tuple #[.agg #[.int .i64 (iy (a + g * c) (b + g * d) (a + g * c)), .int .i64 (iy (a + g * c) (b + g * d) (b + g * d))], .int .i64 (ie (a + g * c) (b + g * d))]) ∧ G w w' := by
  have H1 := Lib.hid h
  have H2 := Lib.hid h2
  obtain ⟨⟨a0, a1⟩, b0, b1⟩ := h
  obtain ⟨⟨c0, c1⟩, d0, d1⟩ := h2
  obtain ⟨u, hu⟩ : ∃ z : Int, Hid (z = g * c) := ⟨_, rfl⟩
  obtain ⟨v, hv⟩ : ∃ z : Int, Hid (z = g * d) := ⟨_, rfl⟩
  have ub : -77 ≤ u ∧ u ≤ 77 := by rw [hu.out]; rcases hg with rfl | rfl <;> omega
  have vb : -140 ≤ v ∧ v ≤ 140 := by rw [hv.out]; rcases hg with rfl | rfl <;> omega
  rw [← hu.out, ← hv.out]
  have p1 : IntKind.i64.wrap (g * c) = u := by rw [← hu.out]; exact IntWalk.i64_in u (by omega)
  have p2 : IntKind.i64.wrap (g * d) = v := by rw [← hv.out]; exact IntWalk.i64_in v (by omega)
  have p3 := IntWalk.i64_in (a + u) (by omega)
  have p4 := IntWalk.i64_in (b + v) (by omega)
  obtain ⟨m, hm⟩ : ∃ z : Int, Hid (z = a + u) := ⟨_, rfl⟩
  obtain ⟨n, hn⟩ : ∃ z : Int, Hid (z = b + v) := ⟨_, rfl⟩
  rw [← hm.out] at p3
  rw [← hn.out] at p4
  have p3' : IntKind.i64.wrap (a + u) = m := by rw [← hm.out]; exact p3
  have p4' : IntKind.i64.wrap (b + v) = n := by rw [← hn.out]; exact p4
  rw [← hm.out, ← hn.out]
  clear hg ub vb p3 p4
  by_cases hS : Iv m n
  · have HS := Lib.hid hS
    rw [iy_ok hS, iy_ok hS, ie_ok hS]
    clear hS
    go_enter Tryd.func14, Tryd.ntmps14
    go_wp2_with fail
    refine (rIs_any a b _).mono ?_
    rintro e w1 ⟨rfl, hG⟩
    rw [decide_eq_true H1.out]
    obtain ⟨⟨y0, y1⟩, ⟨y2, y3⟩, ⟨y4, y5⟩, f0, f1⟩ := duo3_later hG
    go_wp2_with fail
    refine (rIs_any c d _).mono ?_
    rintro e w2 ⟨rfl, hG2⟩
    rw [decide_eq_true H2.out]
    have gc := hG.trans (G.trans (by (repeat' (first | (with_reducible exact G.refl _) | (with_reducible refine G.drewN ?_ _) | (with_reducible refine G.drew ?_) | (with_reducible refine G.alloc ?_ _)))) hG2)
    clear y0 y1 y2 y3 y4 y5 f0 f1
    obtain ⟨⟨y0, y1⟩, ⟨y2, y3⟩, ⟨y4, y5⟩, f0, f1⟩ := duo3_later gc
    go_wp2_with fail
    refine (rIs_any m n _).mono ?_
    rintro e w3 ⟨rfl, hG3⟩
    rw [decide_eq_true HS.out]
    obtain ⟨z0, z1⟩ := duo_later hG3
    have gd := gc.trans (G.trans (by (repeat' (first | (with_reducible exact G.refl _) | (with_reducible refine G.drewN ?_ _) | (with_reducible refine G.drew ?_) | (with_reducible refine G.alloc ?_ _)))) hG3)
    clear y0 y1 y2 y3 y4 y5 f0 f1
    obtain ⟨⟨y0, y1⟩, ⟨y2, y3⟩, ⟨y4, y5⟩, f0, f1⟩ := duo3_later gd
    go_wp2_with fail
    refine bodyPost_ret (v := .tuple #[.agg #[.int .i64 m, .int .i64 n], .int .i64 0]) (by simp [results, Tryd.results14, go_sem, y4, y5]) rfl ⟨rfl, ?_⟩
    (repeat' (first | (with_reducible exact G.refl _) | (with_reducible assumption) | (with_reducible refine G.drewN ?_ _) | (with_reducible refine G.drew ?_) | (with_reducible refine G.alloc ?_ _) | (with_reducible refine G.setCell ?_ (by first | (with_reducible exact Nat.le_refl _) | (simp; done) | (simp; omega) | omega) _) | (with_reducible refine G.trans ?_ (by assumption))))
  · have HS := Lib.hid hS
    rw [iy_bad hS, iy_bad hS, ie_bad hS]
    clear hS
    go_enter Tryd.func14, Tryd.ntmps14
    go_wp2_with fail
    refine (rIs_any a b _).mono ?_
    rintro e w1 ⟨rfl, hG⟩
    rw [decide_eq_true H1.out]
    obtain ⟨⟨y0, y1⟩, ⟨y2, y3⟩, ⟨y4, y5⟩, f0, f1⟩ := duo3_later hG
    go_wp2_with fail
    refine (rIs_any c d _).mono ?_
    rintro e w2 ⟨rfl, hG2⟩
    rw [decide_eq_true H2.out]
    have gc := hG.trans (G.trans (by (repeat' (first | (with_reducible exact G.refl _) | (with_reducible refine G.drewN ?_ _) | (with_reducible refine G.drew ?_) | (with_reducible refine G.alloc ?_ _)))) hG2)
    clear y0 y1 y2 y3 y4 y5 f0 f1
    obtain ⟨⟨y0, y1⟩, ⟨y2, y3⟩, ⟨y4, y5⟩, f0, f1⟩ := duo3_later gc
    go_wp2_with fail
    refine (rIs_any m n _).mono ?_
    rintro e w3 ⟨rfl, hG3⟩
    rw [decide_eq_false HS.out]
    have gd := gc.trans (G.trans (by (repeat' (first | (with_reducible exact G.refl _) | (with_reducible refine G.drewN ?_ _) | (with_reducible refine G.drew ?_) | (with_reducible refine G.alloc ?_ _)))) hG3)
    clear y0 y1 y2 y3 y4 y5 f0 f1
    obtain ⟨⟨y0, y1⟩, ⟨y2, y3⟩, ⟨y4, y5⟩, f0, f1⟩ := duo3_later gd
    go_wp2_with fail
    refine bodyPost_ret (v := .tuple #[.agg #[.int .i64 0, .int .i64 0], .int .i64 2]) (by simp [results, Tryd.results14, go_sem, y4, y5]) rfl ⟨rfl, ?_⟩
    (repeat' (first | (with_reducible exact G.refl _) | (with_reducible assumption) | (with_reducible refine G.drewN ?_ _) | (with_reducible refine G.drew ?_) | (with_reducible refine G.alloc ?_ _) | (with_reducible refine G.setCell ?_ (by first | (with_reducible exact Nat.le_refl _) | (simp; done) | (simp; omega) | omega) _) | (with_reducible refine G.trans ?_ (by assumption))))
end Go.Proofs.YtdpidcmalcfjaaaDoor
