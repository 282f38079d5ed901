import Derived.Test.YtghlecocnflbnaaDoorA6
/-! The example of the chapter holds. -/
namespace Go.Proofs.YtghlecocnflbnaaDoor
open Go.RowKit
attribute [local go_sem] World.cell?_alloc_some

def exL : List Nt := [⟨0, 6, -1, 4, false, 0⟩, ⟨1, 6, 0, 4, false, 0⟩, ⟨2, 6, 0, 4, false, 0⟩, ⟨3, 6, -1, 4, false, 0⟩]
theorem ex_ck : ckA (-1) exL = 0 := by decide +kernel
theorem ex_disp : disp (-1) exL = [(0, false), (3, false), (0, false), (2, false)] := by decide +kernel
theorem ex_at (w : World) (t : TypeId) (B : Nat) (hB : w.heap.size = B) : NtsAt (w.alloc (.cells #[.int .i64 0, .int .i64 6, .int .i64 (-1), .int .i64 4, .bool false, .int .i64 0, .int .i64 1, .int .i64 6, .int .i64 0, .int .i64 4, .bool false, .int .i64 0, .int .i64 2, .int .i64 6, .int .i64 0, .int .i64 4, .bool false, .int .i64 0, .int .i64 3, .int .i64 6, .int .i64 (-1), .int .i64 4, .bool false, .int .i64 0] t)) (some ⟨B, 0, none⟩) exL := by
  subst hB
  refine .inr ⟨w.heap.size, 0, rfl, fun i n hn => ?_⟩
  match i, hn with
  | 0, hn => obtain rfl := Option.some.inj hn; exact ⟨by go_cell, by go_cell, by go_cell, by go_cell, by go_cell, by go_cell⟩
  | 1, hn => obtain rfl := Option.some.inj hn; exact ⟨by go_cell, by go_cell, by go_cell, by go_cell, by go_cell, by go_cell⟩
  | 2, hn => obtain rfl := Option.some.inj hn; exact ⟨by go_cell, by go_cell, by go_cell, by go_cell, by go_cell, by go_cell⟩
  | 3, hn => obtain rfl := Option.some.inj hn; exact ⟨by go_cell, by go_cell, by go_cell, by go_cell, by go_cell, by go_cell⟩
  | k + 4, hn => cases hn
set_option maxRecDepth 100000 in
set_option maxHeartbeats 3200000 in
theorem known_any (w : World) (hT : Tab w) : Calls Tryd.prog 13 #[] w fun e w' => e = .returned (.bool true) ∧ G w w' := by
  have HT := Lib.hid hT
  clear hT
  go_enter Tryd.func13, Tryd.ntmps13
  go_wp2_with fail
  refine (Display_ok (-1) _ exL 4 4 _ rfl (ex_at _ _ _ (by simp)) (HT.out.later (by (repeat' (first | (with_reducible exact G.refl _) | (with_reducible assumption) | (with_reducible refine G.drewN ?_ _) | (with_reducible refine G.drew ?_) | (with_reducible refine G.alloc ?_ _) | (with_reducible refine G.setCell ?_ (by first | (with_reducible exact Nat.le_refl _) | (simp; done) | (simp; omega) | omega) _) | (with_reducible refine G.trans ?_ (by assumption)))))) ex_ck).mono ?_
  rintro e w1 ⟨v, rfl, hR, hG⟩
  rw [ex_disp] at hR
  have g1 : G w w1 := G.trans (by (repeat' (first | (with_reducible exact G.refl _) | (with_reducible refine G.drewN ?_ _) | (with_reducible refine G.drew ?_) | (with_reducible refine G.alloc ?_ _)))) hG
  rcases hR.cells mkE_len with ⟨_, h0⟩ | ⟨g, cap, rfl, _, hcap, _, hc⟩
  · cases h0
  dsimp only [List.length_cons, List.length_nil, Nat.zero_add, Nat.reduceAdd] at hcap ⊢
  have c0 := (hc 0 _ rfl 0 _ rfl).1
  have c1 := (hc 1 _ rfl 0 _ rfl).1
  have c2 := (hc 2 _ rfl 0 _ rfl).1
  have c3 := (hc 3 _ rfl 0 _ rfl).1
  simp only [Nat.reduceMul, Nat.zero_mul, Nat.add_zero] at c0 c1 c2 c3
  clear hR hc
  go_wp2_with fail
  go_ret
  exact ⟨by first | rfl | simp, g1⟩
end Go.Proofs.YtghlecocnflbnaaDoor
