import Derived.Test.YtkooggakngheoaaDoorIv5
/-! Intervals: Simple, Invert. -/
namespace Go.Proofs.YtkooggakngheoaaDoor
open Go.RowKit
attribute [local go_sem] World.cell?_alloc_some

set_option maxHeartbeats 1600000 in
theorem iInvert_out (s t : Int) (w : World) (h : s < 0 ∨ 7 < s) :
    Calls Tryd.prog 32 #[.agg #[.int .i64 s, .int .i64 t]] w fun e w' => e = .returned (.tuple #[.agg #[.int .i64 0, .int .i64 0], .int .i64 2]) ∧ G w w' := by
  rcases h with h | h
  all_goals
    go_enter Tryd.func32, Tryd.ntmps32
    go_wp2_with fail
    refine bodyPost_ret (v := .tuple #[.agg #[.int .i64 0, .int .i64 0], .int .i64 2]) (by simp [results, Tryd.results32, go_sem]) rfl ⟨rfl, ?_⟩
    (repeat' (first | (with_reducible exact G.refl _) | (with_reducible assumption) | (with_reducible refine G.drewN ?_ _) | (with_reducible refine G.drew ?_) | (with_reducible refine G.alloc ?_ _) | (with_reducible refine G.setCell ?_ (by first | (with_reducible exact Nat.le_refl _) | (simp; done) | (simp; omega) | omega) _) | (with_reducible refine G.trans ?_ (by assumption))))

set_option maxHeartbeats 1600000 in
theorem iInvert_in (s t t' : Int) (w : World) (h0 : 0 ≤ s) (h1 : s ≤ 7) (ht : IntKind.i64.wrap (-t) = t') :
    Calls Tryd.prog 32 #[.agg #[.int .i64 s, .int .i64 t]] w fun e w' => e = .returned (.tuple #[.agg #[.int .i64 (sy 7 12 (-s) t' (7 + -s)), .int .i64 (sy 7 12 (-s) t' (12 + t'))], .int .i64 (se 7 12 (-s) t')]) ∧ G w w' := by
  obtain ⟨R, hR⟩ : ∃ z : Value, Hid (z = .tuple #[.agg #[.int .i64 (sy 7 12 (-s) t' (7 + -s)), .int .i64 (sy 7 12 (-s) t' (12 + t'))], .int .i64 (se 7 12 (-s) t')]) := ⟨_, rfl⟩
  obtain ⟨x, hx⟩ : ∃ z : Int, Hid (z = sy 7 12 (-s) t' (7 + -s)) := ⟨_, rfl⟩
  obtain ⟨y, hy⟩ : ∃ z : Int, Hid (z = sy 7 12 (-s) t' (12 + t')) := ⟨_, rfl⟩
  obtain ⟨z, hz⟩ : ∃ z : Int, Hid (z = se 7 12 (-s) t') := ⟨_, rfl⟩
  rw [← hR.out]
  have HC := Lib.hid (And.intro (IntWalk.i64_in (-s) (by omega)) ht)
  clear ht
  go_enter Tryd.func32, Tryd.ntmps32
  go_wp2_with fail
  refine (iSub_any 7 12 s t (-s) t' _ HC.out.1 HC.out.2).mono ?_
  rintro e w1 ⟨rfl, hG⟩
  rw [← hx.out, ← hy.out, ← hz.out]
  obtain ⟨⟨y0, y1⟩, ⟨z0, z1⟩, f0, f1⟩ := duo2_later hG
  go_wp2_with fail
  refine bodyPost_ret (v := R) (by rw [hR.out, ← hx.out, ← hy.out, ← hz.out]; simp [results, Tryd.results32, go_sem, z0, z1]) rfl ⟨rfl, ?_⟩
  (repeat' (first | (with_reducible exact G.refl _) | (with_reducible assumption) | (with_reducible refine G.drewN ?_ _) | (with_reducible refine G.drew ?_) | (with_reducible refine G.alloc ?_ _) | (with_reducible refine G.setCell ?_ (by first | (with_reducible exact Nat.le_refl _) | (simp; done) | (simp; omega) | omega) _) | (with_reducible refine G.trans ?_ (by assumption))))
end Go.Proofs.YtkooggakngheoaaDoor
