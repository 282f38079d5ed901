import Derived.Test.YtdiokagnpiiijaaDoorScale
import Derived.Test.YtdiokagnpiiijaaDoorTrans
import Derived.Test.YtdiokagnpiiijaaDoorNm
/-! The examples of the chapter hold. -/
namespace Go.Proofs.YtdiokagnpiiijaaDoor
open Go.RowKit
attribute [local go_sem] World.cell?_alloc_some

theorem sg2 : sgL 2 = [3, 0] := by decide +kernel
theorem kn2 : (⟨(kn (tS (2 + mi true)) (tA (2 + mi true)) true).toArray⟩ : ByteArray) = ⟨#[66, 32, 109, 105, 110, 111, 114]⟩ := by rfl
theorem sc2 : scF 2 false 4 = scL 2 (tS (2 + mi false)) 4 7 := by decide +kernel
theorem sc26 : (scL 2 (tS (2 + mi false)) 4 7)[6]? = some (0, 1, 5) := by decide +kernel
theorem se2 : scE 2 false 4 = 0 := by decide +kernel
theorem tr7 : tr 7 1 2 = -3 ∧ te 7 1 2 = 0 := by decide +kernel

set_option maxRecDepth 100000 in
set_option maxHeartbeats 1600000 in
theorem known_any (w : World) (hT : Tab w) : Calls Tryd.prog 15 #[] w fun e w' => e = .returned (.bool true) ∧ G w w' := by
  have HT := Lib.hid hT
  clear hT
  go_enter Tryd.func15, Tryd.ntmps15
  go_wp2_with fail
  refine (Signature_ok 2 _ (by decide) HT.out).mono ?_
  rintro e w1 ⟨v, rfl, hA1⟩
  have hG1 := hA1.2
  rw [sg2] at hA1
  rcases hA1.cells with ⟨_, h⟩ | ⟨g, cap, rfl, hg, hcap, hcap2, hcells⟩
  · cases h
  have c0 := hcells 0 3 rfl
  have c1 := hcells 1 0 rfl
  clear hcells hA1
  dsimp only [List.length_cons, List.length_nil, Nat.reduceAdd] at hcap
  go_wp2_with fail
  refine (Name_ok 2 true _ (by decide) (HT.out.later (by (repeat' (first | (with_reducible exact G.refl _) | (with_reducible assumption) | (with_reducible refine G.drewN ?_ _) | (with_reducible refine G.drew ?_) | (with_reducible refine G.alloc ?_ _) | (with_reducible refine G.setCell ?_ (by first | (with_reducible exact Nat.le_refl _) | (simp; done) | (simp; omega) | omega) _) | (with_reducible refine G.trans ?_ (by assumption))))))).mono ?_
  rintro e w2 ⟨rfl, hG2⟩
  rw [kn2]
  go_wp2_with fail
  refine (Scale_any 2 false 4 _ (by decide) (by decide) (HT.out.later (by (repeat' (first | (with_reducible exact G.refl _) | (with_reducible assumption) | (with_reducible refine G.drewN ?_ _) | (with_reducible refine G.drew ?_) | (with_reducible refine G.alloc ?_ _) | (with_reducible refine G.setCell ?_ (by first | (with_reducible exact Nat.le_refl _) | (simp; done) | (simp; omega) | omega) _) | (with_reducible refine G.trans ?_ (by assumption))))))).mono ?_
  rintro e w3 ⟨v3, rfl, hA3⟩
  have hG3 := hA3.2
  rw [sc2] at hA3
  rw [se2]
  rcases own_cells hA3.1 with ⟨_, h⟩ | ⟨g3, cap3, rfl, hg3, hcap3, hcap4, hcells⟩
  · exact absurd h (by decide +kernel)
  obtain ⟨d0, d1, d2⟩ := hcells 6 _ sc26
  rw [scL_len] at hcap3 ⊢
  clear hcells hA3
  dsimp only [Nat.reduceMul, Nat.reduceAdd] at d0 d1 d2
  go_wp2_with fail
  refine (Transpose_any 7 1 2 _).mono ?_
  rintro e w4 ⟨rfl, hG4⟩
  rw [tr7.1, tr7.2]
  replace d0 := hG4.at d0
  replace d1 := hG4.at d1
  replace d2 := hG4.at d2
  have gA : G w1 w4 := by (repeat' (first | (with_reducible exact G.refl _) | (with_reducible assumption) | (with_reducible refine G.drewN ?_ _) | (with_reducible refine G.drew ?_) | (with_reducible refine G.alloc ?_ _) | (with_reducible refine G.setCell ?_ (by first | (with_reducible exact Nat.le_refl _) | (simp; done) | (simp; omega) | omega) _) | (with_reducible refine G.trans ?_ (by assumption))))
  replace c0 := gA.at c0
  replace c1 := gA.at c1
  go_wp2_with fail
  go_ret
  exact ⟨rfl, by (repeat' (first | (with_reducible exact G.refl _) | (with_reducible assumption) | (with_reducible refine G.drewN ?_ _) | (with_reducible refine G.drew ?_) | (with_reducible refine G.alloc ?_ _) | (with_reducible refine G.setCell ?_ (by first | (with_reducible exact Nat.le_refl _) | (simp; done) | (simp; omega) | omega) _) | (with_reducible refine G.trans ?_ (by assumption))))⟩
end Go.Proofs.YtdiokagnpiiijaaDoor
