import Derived.Test.YtipamoakeccecaaDoorPrs
/-! The examples of the chapter hold. -/
namespace Go.Proofs.YtipamoakeccecaaDoor
open Go.RowKit Go.Shelf
attribute [local go_sem] World.cell?_alloc_some

theorem enh61 : enh 61 (alts 5) = [(6, 2, 3), (0, 1, 4), (1, -1, 4)] := by decide +kernel
theorem rsp_known : rsp 0 0 4 (-1) = some (6, 1, 3) := by decide +kernel
theorem parse_known : parseF [67, 35] = ((0, 0, 0), 1, 3) := by decide +kernel
theorem nm_known : nm 6 (-1) 3 = [66, 98, 51] := by
  have a : Lib.decDigits 3 = [51] := by rw [Lib.decDigits]; rfl
  unfold nm Lib.itoa
  rw [if_neg (by decide)]
  show 66 :: ([98] ++ Lib.decDigits 3) = _
  rw [a]; rfl

set_option maxRecDepth 20000 in
set_option maxHeartbeats 1600000 in
theorem known_any (w : World) (hT : Tab w) : Calls Tryd.prog 5 #[] w fun e w' => e = .returned (.bool true) ∧ G w w' := by
  have HT := Lib.hid hT
  clear hT
  go_enter Tryd.func5, Tryd.ntmps5
  go_wp2_with fail
  refine (Number_any 0 1 4 _ (HT.out.later (by (repeat' (first | (with_reducible exact G.refl _) | (with_reducible assumption) | (with_reducible refine G.drewN ?_ _) | (with_reducible refine G.drew ?_) | (with_reducible refine G.alloc ?_ _) | (with_reducible refine G.setCell ?_ (by first | (with_reducible exact Nat.le_refl _) | (simp; done) | (simp; omega) | omega) _) | (with_reducible refine G.trans ?_ (by assumption)))))).hts).mono ?_
  rintro e w1 ⟨rfl, hG1⟩
  rw [show (if Ok 0 1 4 then ht 0 1 4 else 0) = 61 by decide, show er 0 1 4 = 0 by decide]
  go_wp2_with fail
  refine (Enharmonics_any 61 _ (by decide) (by decide) (HT.out.later (by (repeat' (first | (with_reducible exact G.refl _) | (with_reducible assumption) | (with_reducible refine G.drewN ?_ _) | (with_reducible refine G.drew ?_) | (with_reducible refine G.alloc ?_ _) | (with_reducible refine G.setCell ?_ (by first | (with_reducible exact Nat.le_refl _) | (simp; done) | (simp; omega) | omega) _) | (with_reducible refine G.trans ?_ (by assumption)))))).hts).mono ?_
  rintro e w2 ⟨v, rfl, hown, hG2⟩
  rw [enh61] at hown
  rcases own_cells hown with ⟨_, h⟩ | ⟨g, cap, rfl, hg, hcap, hcap2, hcells⟩
  · cases h
  obtain ⟨c0, c1, c2⟩ := hcells 0 (6, 2, 3) rfl
  clear hcells hown
  have gl := cell_lt c0
  dsimp only [List.length_cons, List.length_nil, Nat.reduceAdd, Nat.reduceMul] at c0 c1 c2 gl hcap
  go_wp2_with fail
  refine (Respell_any 0 0 4 (-1) _ (HT.out.later (by (repeat' (first | (with_reducible exact G.refl _) | (with_reducible assumption) | (with_reducible refine G.drewN ?_ _) | (with_reducible refine G.drew ?_) | (with_reducible refine G.alloc ?_ _) | (with_reducible refine G.setCell ?_ (by first | (with_reducible exact Nat.le_refl _) | (simp; done) | (simp; omega) | omega) _) | (with_reducible refine G.trans ?_ (by assumption)))))).hts).mono ?_
  rintro e w3 ⟨rfl, hG3⟩
  rw [rsp_known]
  dsimp only [rspP, rspE, Option.getD_some, Option.isSome_some, if_true]
  go_wp2_with fail
  refine (Parse_any ⟨#[67, 35]⟩ _ (by decide) (HT.out.later (by (repeat' (first | (with_reducible exact G.refl _) | (with_reducible assumption) | (with_reducible refine G.drewN ?_ _) | (with_reducible refine G.drew ?_) | (with_reducible refine G.alloc ?_ _) | (with_reducible refine G.setCell ?_ (by first | (with_reducible exact Nat.le_refl _) | (simp; done) | (simp; omega) | omega) _) | (with_reducible refine G.trans ?_ (by assumption))))))).mono ?_
  rintro e w4 ⟨rfl, hG4⟩
  rw [show (⟨#[67, 35]⟩ : ByteArray).data.toList = [67, 35] from rfl, parse_known]
  dsimp only [parseV]
  go_wp2_with fail
  refine (Name_ok 6 (-1) 3 _ (HT.out.later (by (repeat' (first | (with_reducible exact G.refl _) | (with_reducible assumption) | (with_reducible refine G.drewN ?_ _) | (with_reducible refine G.drew ?_) | (with_reducible refine G.alloc ?_ _) | (with_reducible refine G.setCell ?_ (by first | (with_reducible exact Nat.le_refl _) | (simp; done) | (simp; omega) | omega) _) | (with_reducible refine G.trans ?_ (by assumption)))))) (by decide)).mono ?_
  rintro e w5 ⟨rfl, hG5⟩
  rw [nm_known]
  obtain ⟨b0, b1, b2⟩ := tri_later (show G (w3.alloc (.cells #[.int .i64 6, .int .i64 1, .int .i64 3] 23)) w5 by (repeat' (first | (with_reducible exact G.refl _) | (with_reducible assumption) | (with_reducible refine G.drewN ?_ _) | (with_reducible refine G.drew ?_) | (with_reducible refine G.alloc ?_ _) | (with_reducible refine G.setCell ?_ (by first | (with_reducible exact Nat.le_refl _) | (simp; done) | (simp; omega) | omega) _) | (with_reducible refine G.trans ?_ (by assumption)))))
  have gA : G w2 w5 := by (repeat' (first | (with_reducible exact G.refl _) | (with_reducible assumption) | (with_reducible refine G.drewN ?_ _) | (with_reducible refine G.drew ?_) | (with_reducible refine G.alloc ?_ _) | (with_reducible refine G.setCell ?_ (by first | (with_reducible exact Nat.le_refl _) | (simp; done) | (simp; omega) | omega) _) | (with_reducible refine G.trans ?_ (by assumption))))
  replace c0 := gA.at c0
  replace c1 := gA.at c1
  replace c2 := gA.at c2
  go_wp2_with fail
  go_ret
  exact ⟨rfl, by (repeat' (first | (with_reducible exact G.refl _) | (with_reducible assumption) | (with_reducible refine G.drewN ?_ _) | (with_reducible refine G.drew ?_) | (with_reducible refine G.alloc ?_ _) | (with_reducible refine G.setCell ?_ (by first | (with_reducible exact Nat.le_refl _) | (simp; done) | (simp; omega) | omega) _) | (with_reducible refine G.trans ?_ (by assumption))))⟩
end Go.Proofs.YtipamoakeccecaaDoor
