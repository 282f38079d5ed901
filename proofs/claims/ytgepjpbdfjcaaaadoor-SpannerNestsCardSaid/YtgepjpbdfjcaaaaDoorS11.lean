import Derived.Test.YtgepjpbdfjcaaaaDoorSL
/-! Spanners: places, spans and lists, converted. -/
namespace Go.Proofs.YtgepjpbdfjcaaaaDoor
open Go.RowKit
attribute [local go_sem] World.cell?_alloc_some

set_option maxHeartbeats 3200000 in
theorem place_any (p : Pl) (w : World) : Calls Tryd.prog 18 #[.agg #[.int .i64 p.m, .int .i64 p.a, .int .i64 p.s, .int .i64 p.v]] w fun e w' => e = .returned (.agg #[.int .i64 p.m, .int .i64 p.a, .int .i64 p.s, .int .i64 p.v]) ∧ G w w' := by
  go_enter Tryd.func18, Tryd.ntmps18
  go_wp2_with fail
  refine bodyPost_ret (v := .agg #[.int .i64 p.m, .int .i64 p.a, .int .i64 p.s, .int .i64 p.v]) (by simp [results, Tryd.results18, go_sem]) rfl ⟨rfl, ?_⟩
  (repeat' (first | (with_reducible exact G.refl _) | (with_reducible assumption) | (with_reducible refine G.drewN ?_ _) | (with_reducible refine G.drew ?_) | (with_reducible refine G.alloc ?_ _) | (with_reducible refine G.setCell ?_ (by first | (with_reducible exact Nat.le_refl _) | (simp; done) | (simp; omega) | omega) _) | (with_reducible refine G.trans ?_ (by assumption))))
theorem B9.frz {W w1 : World} {o : Obj} {c : Array Value} {t : TypeId} (h : G ((W.alloc o).alloc (.cells c t)) w1) : w1.frozen? ⟨W.heap.size + 1, 0, none⟩ = false ∧ w1.frozen? ⟨W.heap.size + 1, 1, none⟩ = false ∧ w1.frozen? ⟨W.heap.size + 1, 2, none⟩ = false ∧ w1.frozen? ⟨W.heap.size + 1, 3, none⟩ = false ∧ w1.frozen? ⟨W.heap.size + 1, 4, none⟩ = false ∧ w1.frozen? ⟨W.heap.size + 1, 5, none⟩ = false ∧ w1.frozen? ⟨W.heap.size + 1, 6, none⟩ = false ∧ w1.frozen? ⟨W.heap.size + 1, 7, none⟩ = false ∧ w1.frozen? ⟨W.heap.size + 1, 8, none⟩ = false := by
  refine ⟨?_, ?_, ?_, ?_, ?_, ?_, ?_, ?_, ?_⟩ <;> (rw [h.frozen (by simp)]; simp [go_sem])
set_option maxRecDepth 100000 in
set_option maxHeartbeats 6400000 in
theorem own_any (x : Sp) (w : World) : Calls Tryd.prog 15 #[.agg #[.int .i64 x.k, .int .i64 x.f.m, .int .i64 x.f.a, .int .i64 x.f.s, .int .i64 x.f.v, .int .i64 x.t.m, .int .i64 x.t.a, .int .i64 x.t.s, .int .i64 x.t.v]] w fun e w' => e = .returned (.agg #[.int .i64 x.k, .int .i64 x.f.m, .int .i64 x.f.a, .int .i64 x.f.s, .int .i64 x.f.v, .int .i64 x.t.m, .int .i64 x.t.a, .int .i64 x.t.s, .int .i64 x.t.v]) ∧ G w w' := by
  have gb : G ((w.alloc (.cells #[.int .i64 x.k, .int .i64 x.f.m, .int .i64 x.f.a, .int .i64 x.f.s, .int .i64 x.f.v, .int .i64 x.t.m, .int .i64 x.t.a, .int .i64 x.t.s, .int .i64 x.t.v] 25)).alloc (.cells #[.int .i64 0, .int .i64 0, .int .i64 0, .int .i64 0, .int .i64 0, .int .i64 0, .int .i64 0, .int .i64 0, .int .i64 0] 31)) ((w.alloc (.cells #[.int .i64 x.k, .int .i64 x.f.m, .int .i64 x.f.a, .int .i64 x.f.s, .int .i64 x.f.v, .int .i64 x.t.m, .int .i64 x.t.a, .int .i64 x.t.s, .int .i64 x.t.v] 25)).alloc (.cells #[.int .i64 0, .int .i64 0, .int .i64 0, .int .i64 0, .int .i64 0, .int .i64 0, .int .i64 0, .int .i64 0, .int .i64 0] 31)) := G.refl _
  obtain ⟨⟨x0, x1, x2, x3, x4, x5, x6, x7, x8⟩, ⟨z0, z1, z2, z3, z4, z5, z6, z7, z8⟩⟩ := B9.made2 (y := ⟨0, ⟨0, 0, 0, 0⟩, ⟨0, 0, 0, 0⟩⟩) rfl rfl gb
  obtain ⟨f0, f1, f2, f3, f4, f5, f6, f7, f8⟩ := B9.frz gb
  dsimp only at z0 z1 z2 z3 z4 z5 z6 z7 z8
  go_enter Tryd.func15, Tryd.ntmps15
  go_wp2_with fail
  go_region_held3 (fun w' => w'.cell? ⟨w.heap.size, 0, none⟩ = some (.int .i64 x.k) ∧ w'.cell? ⟨w.heap.size, 1, none⟩ = some (.int .i64 x.f.m) ∧ w'.cell? ⟨w.heap.size, 2, none⟩ = some (.int .i64 x.f.a) ∧ w'.cell? ⟨w.heap.size, 3, none⟩ = some (.int .i64 x.f.s) ∧ w'.cell? ⟨w.heap.size, 4, none⟩ = some (.int .i64 x.f.v) ∧ w'.cell? ⟨w.heap.size, 5, none⟩ = some (.int .i64 x.t.m) ∧ w'.cell? ⟨w.heap.size, 6, none⟩ = some (.int .i64 x.t.a) ∧ w'.cell? ⟨w.heap.size, 7, none⟩ = some (.int .i64 x.t.s) ∧ w'.cell? ⟨w.heap.size, 8, none⟩ = some (.int .i64 x.t.v))
    (first | (with_reducible assumption) | ((try dsimp only); (repeat' (with_reducible apply And.intro)) <;> go_simp))
    ((go_at_call 18; (first | ((with_reducible refine (place_any x.f _).mono ?_); rintro e w9 ⟨rfl, hG9⟩; have gq := gb.trans (G.trans (by (repeat' (first | (with_reducible exact G.refl _) | (with_reducible refine G.drewN ?_ _) | (with_reducible refine G.drew ?_) | (with_reducible refine G.alloc ?_ _)))) hG9); clear gb; have gb := gq; obtain ⟨⟨x0, x1, x2, x3, x4, x5, x6, x7, x8⟩, ⟨z0, z1, z2, z3, z4, z5, z6, z7, z8⟩⟩ := B9.made2 (y := ⟨0, ⟨0, 0, 0, 0⟩, ⟨0, 0, 0, 0⟩⟩) rfl rfl gb; obtain ⟨f0, f1, f2, f3, f4, f5, f6, f7, f8⟩ := B9.frz gb; dsimp only at z0 z1 z2 z3 z4 z5 z6 z7 z8) | ((with_reducible refine (place_any x.t _).mono ?_); rintro e w9 ⟨rfl, hG9⟩; have gq := gb.trans (G.trans (by (repeat' (first | (with_reducible exact G.refl _) | (with_reducible refine G.drewN ?_ _) | (with_reducible refine G.drew ?_) | (with_reducible refine G.alloc ?_ _)))) hG9); clear gb; have gb := gq; obtain ⟨⟨x0, x1, x2, x3, x4, x5, x6, x7, x8⟩, ⟨z0, z1, z2, z3, z4, z5, z6, z7, z8⟩⟩ := B9.made2 (y := ⟨0, ⟨0, 0, 0, 0⟩, ⟨0, 0, 0, 0⟩⟩) rfl rfl gb; obtain ⟨f0, f1, f2, f3, f4, f5, f6, f7, f8⟩ := B9.frz gb; dsimp only at z0 z1 z2 z3 z4 z5 z6 z7 z8))))
  all_goals
    go_wp2_with fail
    refine bodyPost_ret (v := .agg #[.int .i64 x.k, .int .i64 x.f.m, .int .i64 x.f.a, .int .i64 x.f.s, .int .i64 x.f.v, .int .i64 x.t.m, .int .i64 x.t.a, .int .i64 x.t.s, .int .i64 x.t.v]) (by simp [results, Tryd.results15, go_sem, z0, z1, z2, z3, z4, z5, z6, z7, z8]) rfl ⟨rfl, ?_⟩
    (repeat' (first | (with_reducible exact G.refl _) | (with_reducible assumption) | (with_reducible refine G.drewN ?_ _) | (with_reducible refine G.drew ?_) | (with_reducible refine G.alloc ?_ _) | (with_reducible refine G.setCell ?_ (by first | (with_reducible exact Nat.le_refl _) | (simp; done) | (simp; omega) | omega) _) | (with_reducible refine G.trans ?_ (by assumption))))
end Go.Proofs.YtgepjpbdfjcaaaaDoor
