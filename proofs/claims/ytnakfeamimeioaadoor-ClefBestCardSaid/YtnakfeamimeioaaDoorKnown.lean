import Derived.Test.YtnakfeamimeioaaDoorC5
import Derived.Test.YtnakfeamimeioaaDoorRef1
import Derived.BigRegion
/-! The examples of the chapter hold. -/
namespace Go.Proofs.YtnakfeamimeioaaDoor
open Go.RowKit
attribute [local go_sem] World.cell?_alloc_some

theorem po1 : poV 1 0 0 4 = -6 ∧ poE 1 0 0 4 = 0 := by decide
theorem at1 : atS 2 (-17) = 5 ∧ atO 2 (-17) = 0 ∧ atE 2 (-17) = 0 := by decide
theorem lg1 : lgL (-7) = [-6] := by decide +kernel
theorem sg1 : sgL 1 3 = [4, 1, 5] := by decide +kernel
theorem cf1 : Cf 1 := by decide
theorem sgf3 : Sg 3 := by decide

set_option maxRecDepth 100000 in
set_option maxHeartbeats 3200000 in
theorem known_any (w : World) (hT : Tab w) : Calls Tryd.prog 12 #[] w fun e w' => e = .returned (.bool true) ∧ G w w' := by
  have HT := Lib.hid hT
  clear hT
  go_enter Tryd.func12, Tryd.ntmps12
  go_wp2_with fail
  refine (cPosition_any 1 0 0 4 _ (HT.out.later (by (repeat' (first | (with_reducible exact G.refl _) | (with_reducible assumption) | (with_reducible refine G.drewN ?_ _) | (with_reducible refine G.drew ?_) | (with_reducible refine G.alloc ?_ _) | (with_reducible refine G.setCell ?_ (by first | (with_reducible exact Nat.le_refl _) | (simp; done) | (simp; omega) | omega) _) | (with_reducible refine G.trans ?_ (by assumption))))))).mono ?_
  rintro e w1 ⟨rfl, hG1⟩
  rw [po1.1, po1.2]
  go_wp2_with fail
  refine (cAt_any 2 (-17) _ (by decide) (by decide) (HT.out.later (by (repeat' (first | (with_reducible exact G.refl _) | (with_reducible assumption) | (with_reducible refine G.drewN ?_ _) | (with_reducible refine G.drew ?_) | (with_reducible refine G.alloc ?_ _) | (with_reducible refine G.setCell ?_ (by first | (with_reducible exact Nat.le_refl _) | (simp; done) | (simp; omega) | omega) _) | (with_reducible refine G.trans ?_ (by assumption))))))).mono ?_
  rintro e w2 ⟨rfl, hG2⟩
  rw [at1.1, at1.2.1, at1.2.2]
  go_wp2_with fail
  refine (Ledger_in (-7) _ (by decide) (by decide)).mono ?_
  rintro e w3 ⟨v, rfl, hA⟩
  rw [lg1] at hA
  have gA := hA.2
  obtain ⟨z0, z1, z2⟩ := tri_later gA
  rcases hA.cells with ⟨_, hq⟩ | ⟨g, cap, rfl, hg, hcap, hcap2, hcells⟩
  · exact absurd hq (by decide)
  have c0 := hcells 0 (-6) rfl
  clear hA hcells
  dsimp only [List.length_cons, List.length_nil, Nat.zero_add] at hcap
  have gw3 : G w w3 := by (repeat' (first | (with_reducible exact G.refl _) | (with_reducible assumption) | (with_reducible refine G.drewN ?_ _) | (with_reducible refine G.drew ?_) | (with_reducible refine G.alloc ?_ _) | (with_reducible refine G.setCell ?_ (by first | (with_reducible exact Nat.le_refl _) | (simp; done) | (simp; omega) | omega) _) | (with_reducible refine G.trans ?_ (by assumption))))
  go_wp2_with fail
  refine (Signature_ok 1 3 _ cf1 sgf3 (HT.out.later gw3)).mono ?_
  rintro e w4 ⟨v, rfl, hA4⟩
  rw [sg1] at hA4
  have gA4 := hA4.2
  replace z0 := gA4.at z0
  replace z1 := gA4.at z1
  replace z2 := gA4.at z2
  replace c0 := gA4.at c0
  rcases hA4.cells with ⟨_, hq⟩ | ⟨g4, cap4, rfl, hg4, hcap4, hcap5, hcells4⟩
  · exact absurd hq (by decide)
  have d0 := hcells4 0 4 rfl
  have d1 := hcells4 1 1 rfl
  have d2 := hcells4 2 5 rfl
  clear hA4 hcells4
  have gw4 : G w w4 := gw3.trans gA4
  go_wp2_with fail
  go_ret
  exact ⟨by first | rfl | simp, gw4⟩
end Go.Proofs.YtnakfeamimeioaaDoor
