import Derived.Test.YtabaiklagobimaaT7
/-! The example of the chapter holds. -/
namespace Go.Proofs.Ytabaiklagobimaa
open Go.RowKit
attribute [local go_sem] World.cell?_alloc_some

def exL : List Tu := [⟨0, 5, 3, 2⟩, ⟨1, 3, 3, 2⟩]
def exW : List Int := [241920, 120960, 120960, 120960, 241920]
theorem ex_len : lensT exL exW = 0 := by decide +kernel
theorem ex_lens : lens exL 0 exW = [161280, 53760, 53760, 53760, 161280] := by decide +kernel
theorem ex_cb : CB exL := fun t ht => by
  have : t = ⟨0, 5, 3, 2⟩ ∨ t = ⟨1, 3, 3, 2⟩ := by simpa [exL] using ht
  rcases this with rfl | rfl <;> decide
theorem ex_at (w w2 : World) (t : TypeId) (B : Nat) (hB : w.heap.size = B) (g : G (w.alloc (.cells #[.int .i64 0, .int .i64 5, .int .i64 3, .int .i64 2, .int .i64 1, .int .i64 3, .int .i64 3, .int .i64 2] t)) w2) : TusAt w2 (some ⟨B, 0, none⟩) exL := by
  subst hB
  refine TusAt.later (.inr ⟨w.heap.size, 0, rfl, fun i n hn => ?_⟩) g
  match i, hn with
  | 0, hn => obtain rfl := Option.some.inj hn; exact ⟨by go_cell, by go_cell, by go_cell, by go_cell⟩
  | 1, hn => obtain rfl := Option.some.inj hn; exact ⟨by go_cell, by go_cell, by go_cell, by go_cell⟩
  | k + 2, hn => cases hn
theorem ex_wat (w : World) (t : TypeId) (B : Nat) (hB : w.heap.size = B) : IntsAt (w.alloc (.cells #[.int .i64 241920, .int .i64 120960, .int .i64 120960, .int .i64 120960, .int .i64 241920] t)) (some ⟨B, 0, none⟩) exW := by
  subst hB
  refine .inr ⟨w.heap.size, 0, rfl, fun i n hn => ?_⟩
  match i, hn with
  | 0, hn => obtain rfl := Option.some.inj hn; go_cell
  | 1, hn => obtain rfl := Option.some.inj hn; go_cell
  | 2, hn => obtain rfl := Option.some.inj hn; go_cell
  | 3, hn => obtain rfl := Option.some.inj hn; go_cell
  | 4, hn => obtain rfl := Option.some.inj hn; go_cell
  | k + 5, hn => cases hn
set_option maxRecDepth 100000 in
set_option maxHeartbeats 3200000 in
theorem known_any (w : World) : Calls Try.prog 13 #[] w fun e w' => e = .returned (.bool true) ∧ G w w' := by
  go_enter Try.func13, Try.ntmps13
  go_wp2_with fail
  refine (tLengths_any _ _ exL exW 2 2 5 5 _ rfl rfl (by decide) (ex_at w _ _ _ rfl (by (repeat' (first | (with_reducible exact G.refl _) | (with_reducible assumption) | (with_reducible refine G.drewN ?_ _) | (with_reducible refine G.drew ?_) | (with_reducible refine G.alloc ?_ _) | (with_reducible refine G.setCell ?_ (by first | (with_reducible exact Nat.le_refl _) | (simp; done) | (simp; omega) | omega) _) | (with_reducible refine G.trans ?_ (by assumption)))))) ex_cb (ex_wat _ _ _ (by simp))).mono ?_
  rintro e w1 ⟨v, rfl, hR, hG⟩
  rw [ex_len]
  unfold LensR at hR
  rw [if_pos ex_len, ex_lens] at hR
  obtain ⟨g, rfl, hc⟩ := hR
  have g1 : G w w1 := G.trans (by (repeat' (first | (with_reducible exact G.refl _) | (with_reducible refine G.drewN ?_ _) | (with_reducible refine G.drew ?_) | (with_reducible refine G.alloc ?_ _)))) hG
  have c0 := hc 0 _ rfl
  have c1 := hc 1 _ rfl
  have c4 := hc 4 _ rfl
  dsimp only [exW, List.length_cons, List.length_nil, Nat.zero_add, Nat.reduceAdd]
  clear hc
  go_wp2_with fail
  go_ret
  exact ⟨by first | rfl | simp, g1⟩
end Go.Proofs.Ytabaiklagobimaa
