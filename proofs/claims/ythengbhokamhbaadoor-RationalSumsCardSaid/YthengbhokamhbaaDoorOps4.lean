import Derived.Test.YthengbhokamhbaaDoorOps1
import Derived.Test.YthengbhokamhbaaDoorOps2
import Derived.Test.YthengbhokamhbaaDoorOps3
/-! Differences, signs, and the two helpers of the statements. -/
namespace Go.Proofs.YthengbhokamhbaaDoor
open Go.RowKit QM

/-- a result's slot, behind steps that make new blocks alone -/
theorem one_cells {w w1 : World} {c0 c1 : Value} {t : TypeId} (h : G (w.alloc (.cells #[c0, c1] t)) w1) :
    w1.cell? ⟨w.heap.size, 0, none⟩ = some c0 ∧ w1.cell? ⟨w.heap.size, 1, none⟩ = some c1 ∧ w1.frozen? ⟨w.heap.size, 0, none⟩ = false ∧ w1.frozen? ⟨w.heap.size, 1, none⟩ = false ∧ w.heap.size < w1.heap.size := by
  have hz := h.size
  simp at hz
  refine ⟨?_, ?_, ?_, ?_, by omega⟩
  · rw [h.cell (by simp)]; go_cell
  · rw [h.cell (by simp)]; go_cell
  · rw [h.frozen (by simp)]; simp [go_sem]
  · rw [h.frozen (by simp)]; simp [go_sem]

set_option maxHeartbeats 800000 in
theorem same_any (N O E : Int) (w : World) (h : E = 0 ∨ (N = 0 ∧ O = 0 ∧ (E == 0) = false)) (h1 : 0 ≤ O) (h2 : O ≤ 1073741823) :
    Calls Tryd.prog 8 #[.agg #[.int .i64 N, .int .i64 O], .int .i64 E, .agg #[.int .i64 N, .int .i64 (O + 1)], .int .i64 E] w fun e w' => e = .returned (.bool true) ∧ G w w' := by
  rcases h with rfl | ⟨rfl, rfl, hE⟩
  · go_enter Tryd.func8, Tryd.ntmps8
    go_wp2_with fail
    go_region_held3 (fun w' => w'.cell? ⟨w.heap.size, 0, none⟩ = some (.int .i64 N) ∧ w'.cell? ⟨w.heap.size, 1, none⟩ = some (.int .i64 O) ∧ w'.cell? ⟨w.heap.size + 1, 0, none⟩ = some (.int .i64 N) ∧ w'.cell? ⟨w.heap.size + 1, 1, none⟩ = some (.int .i64 (O + 1)))
      (first | (with_reducible assumption) | ((try dsimp only); (repeat' (with_reducible apply And.intro)) <;> go_simp))
      (first | (go_at_call 15; refine (Den_any _ _ _ (by omega) (by omega)).mono ?_; rintro e w1 ⟨rfl, rfl⟩) | (go_at_call 14; refine (Num_any _ _ _).mono ?_; rintro e w1 ⟨rfl, rfl⟩))
    go_wp2
    go_ret
    exact ⟨rfl, by (repeat' (first | (with_reducible exact G.refl _) | (with_reducible assumption) | (with_reducible refine G.drewN ?_ _) | (with_reducible refine G.drew ?_) | (with_reducible refine G.alloc ?_ _) | (with_reducible refine G.setCell ?_ (by first | (with_reducible exact Nat.le_refl _) | (simp; done) | (simp; omega) | omega) _) | (with_reducible refine G.trans ?_ (by assumption))))⟩
  · go_enter Tryd.func8, Tryd.ntmps8
    go_wp2
    go_ret
    exact ⟨rfl, by (repeat' (first | (with_reducible exact G.refl _) | (with_reducible assumption) | (with_reducible refine G.drewN ?_ _) | (with_reducible refine G.drew ?_) | (with_reducible refine G.alloc ?_ _) | (with_reducible refine G.setCell ?_ (by first | (with_reducible exact Nat.le_refl _) | (simp; done) | (simp; omega) | omega) _) | (with_reducible refine G.trans ?_ (by assumption))))⟩

/-- two results' slots, behind steps that make new blocks alone -/
theorem two_cells {w w1 : World} {c0 c1 d0 d1 : Value} {t t' : TypeId} (h : G ((w.alloc (.cells #[c0, c1] t)).alloc (.cells #[d0, d1] t')) w1) :
    w1.cell? ⟨w.heap.size, 0, none⟩ = some c0 ∧ w1.cell? ⟨w.heap.size, 1, none⟩ = some c1 ∧ w1.frozen? ⟨w.heap.size, 0, none⟩ = false ∧ w1.frozen? ⟨w.heap.size, 1, none⟩ = false ∧
    w1.cell? ⟨w.heap.size + 1, 0, none⟩ = some d0 ∧ w1.cell? ⟨w.heap.size + 1, 1, none⟩ = some d1 ∧ w1.frozen? ⟨w.heap.size + 1, 0, none⟩ = false ∧ w1.frozen? ⟨w.heap.size + 1, 1, none⟩ = false ∧ w.heap.size + 1 < w1.heap.size := by
  have hz := h.size
  simp at hz
  refine ⟨?_, ?_, ?_, ?_, ?_, ?_, ?_, ?_, by omega⟩
  · rw [h.cell (by simp; omega)]; go_cell
  · rw [h.cell (by simp; omega)]; go_cell
  · rw [h.frozen (by simp; omega)]; simp [go_sem]
  · rw [h.frozen (by simp; omega)]; simp [go_sem]
  · rw [h.cell (by simp)]; go_cell
  · rw [h.cell (by simp)]; go_cell
  · rw [h.frozen (by simp)]; simp [go_sem]
  · rw [h.frozen (by simp)]; simp [go_sem]

/-- a fraction of the program, with the same fraction of the reference -/
def IsOf (w : World) (e : Ending) (w' : World) : Prop := ∃ N O : Int, Cn N O ∧ e = .returned (.tuple #[.agg #[.int .i64 N, .int .i64 O], .agg #[.int .i64 N, .int .i64 (O + 1)]]) ∧ G w w'

set_option maxHeartbeats 400000 in
theorem of_any (n d : Int) (w : World) (h1 : -9223372036854775808 ≤ n) (h2 : n ≤ 9223372036854775807) (h3 : -9223372036854775808 ≤ d) (h4 : d ≤ 9223372036854775807) :
    Calls Tryd.prog 4 #[.int .i64 n, .int .i64 d] w (IsOf w) := by
  go_enter Tryd.func4, Tryd.ntmps4
  go_wp2_with fail
  obtain ⟨A, hA, a1, a2⟩ : ∃ A : Int, A = max (min n 1073741824) (-1073741824) ∧ -9223372036854775808 ≤ A ∧ A ≤ 9223372036854775807 := ⟨_, rfl, by omega, by omega⟩
  obtain ⟨B, hB, b1, b2⟩ : ∃ B : Int, B = max (min d 1073741824) 1 ∧ -9223372036854775808 ≤ B ∧ B ≤ 9223372036854775807 := ⟨_, rfl, by omega, by omega⟩
  rw [← hA, ← hB]
  clear hA hB
  refine (Of_any A B _ a1 a2 b1 b2).mono ?_
  rintro e w1 ⟨rfl, hG1⟩
  obtain ⟨y1, y2, y3, y4, y5, y6, y7, y8, y9⟩ := two_cells hG1
  go_wp2_with fail
  refine (rOf_any A B _ a1 a2 b1 b2).mono ?_
  rintro e w2 ⟨rfl, hG2⟩
  have hC := cn_of A B
  rw [show oD A B = oD A B - 1 + 1 by omega]
  generalize oN A B = N at *
  generalize oD A B - 1 = O at *
  obtain ⟨x1, x2, x3, x4, x5⟩ := one_cells hG2
  have hG3 := G.trans (a := (w.alloc (.cells #[.int .i64 0, .int .i64 0] 27)).alloc (.cells #[.int .i64 0, .int .i64 0] 25)) (by (repeat' (first | (with_reducible exact G.refl _) | (with_reducible assumption) | (with_reducible refine G.drewN ?_ _) | (with_reducible refine G.drew ?_) | (with_reducible refine G.alloc ?_ _) | (with_reducible refine G.setCell ?_ (by first | (with_reducible exact Nat.le_refl _) | (simp; done) | (simp; omega) | omega) _) | (with_reducible refine G.trans ?_ (by assumption))))) hG2
  obtain ⟨z1, z2, z3, z4, z5, z6, z7, z8, z9⟩ := two_cells hG3
  clear y1 y2 y3 y4 y5 y6 y7 y8
  have l1 : w.heap.size ≠ w1.heap.size := by omega
  have l2 : w.heap.size + 1 ≠ w1.heap.size := by omega
  have l3 : w.heap.size ≠ w2.heap.size := by omega
  have l4 : w.heap.size + 1 ≠ w2.heap.size := by omega
  have l5 : w1.heap.size ≠ w2.heap.size := by omega
  go_wp2_with fail
  have g3 : G w2 (w2.alloc (.cells #[.int .i64 N, .int .i64 (O + 1)] 25)) := (G.refl w2).alloc _
  have gf : G w (w2.alloc (.cells #[.int .i64 N, .int .i64 (O + 1)] 25)) := by (repeat' (first | (with_reducible exact G.refl _) | (with_reducible assumption) | (with_reducible refine G.drewN ?_ _) | (with_reducible refine G.drew ?_) | (with_reducible refine G.alloc ?_ _) | (with_reducible refine G.setCell ?_ (by first | (with_reducible exact Nat.le_refl _) | (simp; done) | (simp; omega) | omega) _) | (with_reducible refine G.trans ?_ (by assumption))))
  have k1 := (g3.cell (p := ⟨w.heap.size, 0, none⟩) (by simp; omega)).trans z1
  have k2 := (g3.cell (p := ⟨w.heap.size, 1, none⟩) (by simp; omega)).trans z2
  have k3 := (g3.frozen (p := ⟨w.heap.size, 0, none⟩) (by simp; omega)).trans z3
  have k4 := (g3.frozen (p := ⟨w.heap.size, 1, none⟩) (by simp; omega)).trans z4
  have k5 := (g3.cell (p := ⟨w.heap.size + 1, 0, none⟩) (by simp; omega)).trans z5
  have k6 := (g3.cell (p := ⟨w.heap.size + 1, 1, none⟩) (by simp; omega)).trans z6
  have k7 := (g3.frozen (p := ⟨w.heap.size + 1, 0, none⟩) (by simp; omega)).trans z7
  have k8 := (g3.frozen (p := ⟨w.heap.size + 1, 1, none⟩) (by simp; omega)).trans z8
  have u1 := (g3.cell (p := ⟨w1.heap.size, 0, none⟩) (by simp; omega)).trans x1
  have u2 := (g3.cell (p := ⟨w1.heap.size, 1, none⟩) (by simp; omega)).trans x2
  have v1 : (w2.alloc (.cells #[.int .i64 N, .int .i64 (O + 1)] 25)).cell? ⟨w2.heap.size, 0, none⟩ = some (.int .i64 N) := by go_cell
  have v2 : (w2.alloc (.cells #[.int .i64 N, .int .i64 (O + 1)] 25)).cell? ⟨w2.heap.size, 1, none⟩ = some (.int .i64 (O + 1)) := by go_cell
  generalize w2.alloc (.cells #[.int .i64 N, .int .i64 (O + 1)] 25) = w3 at *
  generalize w1.heap.size = s1 at *
  generalize w2.heap.size = s2 at *
  have l6 := l1.symm; have l7 := l2.symm; have l8 := l3.symm; have l9 := l4.symm; have l10 := l5.symm
  clear z1 z2 z3 z4 z5 z6 z7 z8 x1 x2 x3 x4 g3
  go_region_held3 (fun w' => w'.cell? ⟨s1, 0, none⟩ = some (.int .i64 N) ∧ w'.cell? ⟨s1, 1, none⟩ = some (.int .i64 O) ∧ w'.cell? ⟨s2, 0, none⟩ = some (.int .i64 N) ∧ w'.cell? ⟨s2, 1, none⟩ = some (.int .i64 (O + 1)))
    (first | (with_reducible assumption) | ((try dsimp only); (repeat' (with_reducible apply And.intro)) <;> go_simp))
    (fail)
  go_wp2
  refine bodyPost_ret (v := .tuple #[.agg #[.int .i64 N, .int .i64 O], .agg #[.int .i64 N, .int .i64 (O + 1)]]) (by simp [results, Tryd.results4, go_sem, k1, k2, k5, k6]) rfl ⟨N, O, hC, rfl, ?_⟩
  (repeat' (first | (with_reducible exact G.refl _) | (with_reducible assumption) | (with_reducible refine G.drewN ?_ _) | (with_reducible refine G.drew ?_) | (with_reducible refine G.alloc ?_ _) | (with_reducible refine G.setCell ?_ (by first | (with_reducible exact Nat.le_refl _) | (simp; done) | (simp; omega) | omega) _) | (with_reducible refine G.trans ?_ (by assumption))))
end Go.Proofs.YthengbhokamhbaaDoor
