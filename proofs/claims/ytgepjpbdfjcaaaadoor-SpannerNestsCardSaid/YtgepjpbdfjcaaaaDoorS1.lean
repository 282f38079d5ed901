import Derived.Test.YtgepjpbdfjcaaaaDoorBase
/-! Spanners: what is proper; places; groups. -/
namespace Go.Proofs.YtgepjpbdfjcaaaaDoor
open Go.RowKit
attribute [local go_sem] World.cell?_alloc_some

theorem ret_bool {a b : Bool} (h : a = b) : Ending.returned (.bool a) = .returned (.bool b) := by rw [h]
set_option maxHeartbeats 3200000 in
theorem rin_any (p : Pl) (w : World) : Calls Tryd.prog 41 #[.agg #[.int .i64 p.m, .int .i64 p.a, .int .i64 p.s, .int .i64 p.v]] w fun e w' => e = .returned (.bool (decide (InP p))) ∧ G w w' := by
  obtain ⟨R, hR⟩ : ∃ z : Bool, Hid (z = decide (InP p)) := ⟨_, rfl⟩
  rw [← hR.out]
  go_enter Tryd.func41, Tryd.ntmps41
  go_wp2_with fail
  all_goals
    go_ret
    exact ⟨ret_bool (by rw [hR.out]; unfold InP; grind), by (repeat' (first | (with_reducible exact G.refl _) | (with_reducible assumption) | (with_reducible refine G.drewN ?_ _) | (with_reducible refine G.drew ?_) | (with_reducible refine G.alloc ?_ _) | (with_reducible refine G.setCell ?_ (by first | (with_reducible exact Nat.le_refl _) | (simp; done) | (simp; omega) | omega) _) | (with_reducible refine G.trans ?_ (by assumption))))⟩
set_option maxHeartbeats 3200000 in
theorem rCompare_any (p q : Pl) (w : World) : Calls Tryd.prog 19 #[.agg #[.int .i64 p.m, .int .i64 p.a, .int .i64 p.s, .int .i64 p.v], .agg #[.int .i64 q.m, .int .i64 q.a, .int .i64 q.s, .int .i64 q.v]] w fun e w' => e = .returned (.int .i64 (cmP p q)) ∧ G w w' := by
  obtain ⟨R, hR⟩ : ∃ z : Int, Hid (z = cmP p q) := ⟨_, rfl⟩
  rw [← hR.out]
  have HC := Lib.hid (cmP_cases p q)
  go_enter Tryd.func19, Tryd.ntmps19
  go_wp2_with fail
  all_goals
    go_ret
    exact ⟨ret_int (by have h := HC.out; rw [hR.out]; unfold PLt PEq at h; first | omega | grind), by (repeat' (first | (with_reducible exact G.refl _) | (with_reducible assumption) | (with_reducible refine G.drewN ?_ _) | (with_reducible refine G.drew ?_) | (with_reducible refine G.alloc ?_ _) | (with_reducible refine G.setCell ?_ (by first | (with_reducible exact Nat.le_refl _) | (simp; done) | (simp; omega) | omega) _) | (with_reducible refine G.trans ?_ (by assumption))))⟩
/-- nine cells of a span in a block -/
def B9 (w : World) (n : Nat) (x : Sp) : Prop := w.cell? ⟨n, 0, none⟩ = some (.int .i64 x.k) ∧ w.cell? ⟨n, 1, none⟩ = some (.int .i64 x.f.m) ∧ w.cell? ⟨n, 2, none⟩ = some (.int .i64 x.f.a) ∧ w.cell? ⟨n, 3, none⟩ = some (.int .i64 x.f.s) ∧ w.cell? ⟨n, 4, none⟩ = some (.int .i64 x.f.v) ∧ w.cell? ⟨n, 5, none⟩ = some (.int .i64 x.t.m) ∧ w.cell? ⟨n, 6, none⟩ = some (.int .i64 x.t.a) ∧ w.cell? ⟨n, 7, none⟩ = some (.int .i64 x.t.s) ∧ w.cell? ⟨n, 8, none⟩ = some (.int .i64 x.t.v)
theorem B9.later {w w' : World} {n : Nat} {x : Sp} (h : B9 w n x) (g : G w w') : B9 w' n x := ⟨g.at h.1, g.at h.2.1, g.at h.2.2.1, g.at h.2.2.2.1, g.at h.2.2.2.2.1, g.at h.2.2.2.2.2.1, g.at h.2.2.2.2.2.2.1, g.at h.2.2.2.2.2.2.2.1, g.at h.2.2.2.2.2.2.2.2⟩
theorem B9.made {W w1 : World} {n : Nat} {x : Sp} {t : TypeId} (hs : W.heap.size = n) (h : G (W.alloc (.cells #[.int .i64 x.k, .int .i64 x.f.m, .int .i64 x.f.a, .int .i64 x.f.s, .int .i64 x.f.v, .int .i64 x.t.m, .int .i64 x.t.a, .int .i64 x.t.s, .int .i64 x.t.v] t)) w1) : B9 w1 n x := by
  subst hs
  refine ⟨?_, ?_, ?_, ?_, ?_, ?_, ?_, ?_, ?_⟩ <;> (rw [h.cell (by simp)]; go_cell)
theorem B9.made2 {W w1 : World} {n m : Nat} {x y : Sp} {t t' : TypeId} (hs : W.heap.size = n) (hm : n + 1 = m) (h : G ((W.alloc (.cells #[.int .i64 x.k, .int .i64 x.f.m, .int .i64 x.f.a, .int .i64 x.f.s, .int .i64 x.f.v, .int .i64 x.t.m, .int .i64 x.t.a, .int .i64 x.t.s, .int .i64 x.t.v] t)).alloc (.cells #[.int .i64 y.k, .int .i64 y.f.m, .int .i64 y.f.a, .int .i64 y.f.s, .int .i64 y.f.v, .int .i64 y.t.m, .int .i64 y.t.a, .int .i64 y.t.s, .int .i64 y.t.v] t')) w1) : B9 w1 n x ∧ B9 w1 m y := by
  subst hs hm
  refine ⟨⟨?_, ?_, ?_, ?_, ?_, ?_, ?_, ?_, ?_⟩, ⟨?_, ?_, ?_, ?_, ?_, ?_, ?_, ?_, ?_⟩⟩ <;> (rw [h.cell (by simp; try omega)]; go_cell)
end Go.Proofs.YtgepjpbdfjcaaaaDoor
