import Derived.Test.YtnakfeamimeioaaDoorTri
import Derived.Test.YtnakfeamimeioaaDoorOps1
/-! Of: the pitch with a number of steps and an alteration. -/
namespace Go.Proofs.YtnakfeamimeioaaDoor
open Go.RowKit
attribute [local go_sem] World.cell?_alloc_some

set_option maxHeartbeats 800000 in
theorem Of_out (d a : Int) (w : World) (h : d < -7 ∨ 69 < d) :
    Calls Tryd.prog 36 #[.int .i64 d, .int .i64 a] w fun e w' => e = .returned (.tuple #[.agg #[.int .i64 0, .int .i64 0, .int .i64 0], .int .i64 18]) ∧ G w w' := by
  rcases h with h | h
  · go_enter Tryd.func36, Tryd.ntmps36
    go_wp2_with fail
    refine bodyPost_ret (v := .tuple #[.agg #[.int .i64 0, .int .i64 0, .int .i64 0], .int .i64 18]) (by simp [results, Tryd.results36, go_sem]) rfl ⟨rfl, ?_⟩
    (repeat' (first | (with_reducible exact G.refl _) | (with_reducible assumption) | (with_reducible refine G.drewN ?_ _) | (with_reducible refine G.drew ?_) | (with_reducible refine G.alloc ?_ _) | (with_reducible refine G.setCell ?_ (by first | (with_reducible exact Nat.le_refl _) | (simp; done) | (simp; omega) | omega) _) | (with_reducible refine G.trans ?_ (by assumption))))
  · have h' : 70 ≤ d := by omega
    go_enter Tryd.func36, Tryd.ntmps36
    go_wp2_with fail
    refine bodyPost_ret (v := .tuple #[.agg #[.int .i64 0, .int .i64 0, .int .i64 0], .int .i64 18]) (by simp [results, Tryd.results36, go_sem]) rfl ⟨rfl, ?_⟩
    (repeat' (first | (with_reducible exact G.refl _) | (with_reducible assumption) | (with_reducible refine G.drewN ?_ _) | (with_reducible refine G.drew ?_) | (with_reducible refine G.alloc ?_ _) | (with_reducible refine G.setCell ?_ (by first | (with_reducible exact Nat.le_refl _) | (simp; done) | (simp; omega) | omega) _) | (with_reducible refine G.trans ?_ (by assumption))))

set_option maxHeartbeats 1600000 in
theorem Of_in (d a s o : Int) (w : World) (h0 : -7 ≤ d) (h1 : d ≤ 69) (hs : Hid (s = (d + 7) % 7)) (ho : Hid (o = (d + 7) / 7 - 1)) (hT : Hts w) :
    Calls Tryd.prog 36 #[.int .i64 d, .int .i64 a] w fun e w' => e = .returned (.tuple #[.agg #[.int .i64 (ey s a o s), .int .i64 (ey s a o a), .int .i64 (ey s a o o)], .int .i64 (er s a o)]) ∧ G w w' := by
  have HT := Lib.hid hT
  clear hT
  have q1 : 0 ≤ (d + 7) / 7 := by omega
  have q2 : (d + 7) / 7 ≤ 10 := by omega
  go_enter Tryd.func36, Tryd.ntmps36
  go_wp2_with fail
  rw [show d % 7 = s by rw [hs.out]; omega, show (d + 7) / 7 + -1 = o by rw [ho.out]; omega]
  refine (existing_any _ _ _ _ (HT.out.later (by (repeat' (first | (with_reducible exact G.refl _) | (with_reducible assumption) | (with_reducible refine G.drewN ?_ _) | (with_reducible refine G.drew ?_) | (with_reducible refine G.alloc ?_ _) | (with_reducible refine G.setCell ?_ (by first | (with_reducible exact Nat.le_refl _) | (simp; done) | (simp; omega) | omega) _) | (with_reducible refine G.trans ?_ (by assumption))))))).mono ?_
  rintro e w1 ⟨rfl, hG⟩
  obtain ⟨z0, z1, z2⟩ := tri_at (n := w.heap.size) (by simp) hG
  obtain ⟨f0, f1, f2⟩ := trif_at (n := w.heap.size) (by simp) hG
  go_wp2_with fail
  refine bodyPost_ret (v := .tuple #[.agg #[.int .i64 (ey s a o s), .int .i64 (ey s a o a), .int .i64 (ey s a o o)], .int .i64 (er s a o)]) (by simp [results, Tryd.results36, go_sem, z0, z1, z2]) rfl ⟨rfl, ?_⟩
  (repeat' (first | (with_reducible exact G.refl _) | (with_reducible assumption) | (with_reducible refine G.drewN ?_ _) | (with_reducible refine G.drew ?_) | (with_reducible refine G.alloc ?_ _) | (with_reducible refine G.setCell ?_ (by first | (with_reducible exact Nat.le_refl _) | (simp; done) | (simp; omega) | omega) _) | (with_reducible refine G.trans ?_ (by assumption))))
end Go.Proofs.YtnakfeamimeioaaDoor
