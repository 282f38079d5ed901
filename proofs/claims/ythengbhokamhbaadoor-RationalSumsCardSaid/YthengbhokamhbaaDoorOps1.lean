import Derived.Test.YthengbhokamhbaaDoorSmall
/-! Sums, products and quotients of fractions. -/
namespace Go.Proofs.YthengbhokamhbaaDoor
open Go.RowKit QM

set_option maxHeartbeats 800000 in
theorem Add_any (N O M U : Int) (w : World) (h : Cn N O) (k : Cn M U) :
    Calls Tryd.prog 11 #[.agg #[.int .i64 N, .int .i64 O], .agg #[.int .i64 M, .int .i64 U]] w fun e w' =>
      e = .returned (.tuple #[.agg #[.int .i64 (oN (N * (U + 1) + M * (O + 1)) ((O + 1) * (U + 1))), .int .i64 (oD (N * (U + 1) + M * (O + 1)) ((O + 1) * (U + 1)) - 1)], .int .i64 (oE (N * (U + 1) + M * (O + 1)) ((O + 1) * (U + 1)))]) ∧ G w w' := by
  obtain ⟨a1, a2, a3, a4, _⟩ := h
  obtain ⟨b1, b2, b3, b4, _⟩ := k
  obtain ⟨p01, p02⟩ := @prod_bd N (U + 1) (by omega) (by omega) (by omega) (by omega)
  obtain ⟨p11, p12⟩ := @prod_bd M (O + 1) (by omega) (by omega) (by omega) (by omega)
  obtain ⟨p21, p22⟩ := @prod_bd (O + 1) (U + 1) (by omega) (by omega) (by omega) (by omega)
  have q0 := IntWalk.i64_in (N * (U + 1)) (by omega)
  have q1 := IntWalk.i64_in (M * (O + 1)) (by omega)
  have q2 := IntWalk.i64_in ((O + 1) * (U + 1)) (by omega)
  have q3 := IntWalk.i64_in (N * (U + 1) + M * (O + 1)) (by omega)
  go_enter Tryd.func11, Tryd.ntmps11
  go_wp2_with fail
  go_region_held3 (fun w' => w'.cell? ⟨w.heap.size, 0, none⟩ = some (.int .i64 N) ∧ w'.cell? ⟨w.heap.size, 1, none⟩ = some (.int .i64 O) ∧ w'.cell? ⟨w.heap.size + 1, 0, none⟩ = some (.int .i64 M) ∧ w'.cell? ⟨w.heap.size + 1, 1, none⟩ = some (.int .i64 U))
    (first | (with_reducible assumption) | ((try dsimp only); (repeat' (with_reducible apply And.intro)) <;> go_simp))
    (first | (go_at_call 15; refine (Den_any _ _ _ (by omega) (by omega)).mono ?_; rintro e w1 ⟨rfl, rfl⟩) | (go_at_call 9; refine (Of_any _ _ _ (by omega) (by omega) (by omega) (by omega)).mono ?_; rintro e w1 ⟨rfl, hG⟩; have hG0 := G.trans (a := ((w.alloc (.cells #[.int .i64 N, .int .i64 O] 27)).alloc (.cells #[.int .i64 M, .int .i64 U] 27)).alloc (.cells #[.int .i64 0, .int .i64 0] 27)) (by (repeat' (first | (with_reducible exact G.refl _) | (with_reducible assumption) | (with_reducible refine G.drewN ?_ _) | (with_reducible refine G.drew ?_) | (with_reducible refine G.alloc ?_ _) | (with_reducible refine G.setCell ?_ (by first | (with_reducible exact Nat.le_refl _) | (simp; done) | (simp; omega) | omega) _) | (with_reducible refine G.trans ?_ (by assumption))))) hG; obtain ⟨hS, r1, r2, r3, r4, r5⟩ := three_cells hG0))
  clear q0 q1 q2 q3
  go_wp2
  refine bodyPost_ret (v := .tuple #[.agg #[.int .i64 (oN (N * (U + 1) + M * (O + 1)) ((O + 1) * (U + 1))), .int .i64 (oD (N * (U + 1) + M * (O + 1)) ((O + 1) * (U + 1)) - 1)], .int .i64 (oE (N * (U + 1) + M * (O + 1)) ((O + 1) * (U + 1)))]) (by simp [results, Tryd.results11, go_sem, r1, r2]) rfl ⟨rfl, ?_⟩
  (repeat' (first | (with_reducible exact G.refl _) | (with_reducible assumption) | (with_reducible refine G.drewN ?_ _) | (with_reducible refine G.drew ?_) | (with_reducible refine G.alloc ?_ _) | (with_reducible refine G.setCell ?_ (by first | (with_reducible exact Nat.le_refl _) | (simp; done) | (simp; omega) | omega) _) | (with_reducible refine G.trans ?_ (by assumption))))

end Go.Proofs.YthengbhokamhbaaDoor
