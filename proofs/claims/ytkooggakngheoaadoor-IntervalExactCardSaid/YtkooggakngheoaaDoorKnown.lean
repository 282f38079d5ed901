import Derived.Test.YtkooggakngheoaaDoorIv10
/-! The example of the chapter holds. -/
namespace Go.Proofs.YtkooggakngheoaaDoor
open Go.RowKit
attribute [local go_sem] World.cell?_alloc_some

/-- the program's tables -/
structure Tab (w : World) : Prop where
  hts : Hts w
  fam : Fam w
theorem Tab.later {a b : World} (h : Tab a) (g : G a b) : Tab b := ⟨h.hts.later g, h.fam.later g⟩
theorem okA : Ok 0 0 4 := by decide
theorem okB : Ok 2 (-1) 4 := by decide
theorem okC : Ok 3 2 4 := by decide
theorem iv01 : Iv 0 1 := by decide
theorem btw : (7 * 4 + 2 - (7 * 4 + 0) : Int) = 2 ∧ ht 2 (-1) 4 - ht 0 0 4 = 3 := by decide
theorem tr01 : trP 3 2 4 0 1 = (4, 1, 4) := by decide +kernel
theorem ne68 : enh (ht 3 2 4 + 1) (alts 5) ≠ [] := by decide +kernel

set_option maxRecDepth 100000 in
set_option maxHeartbeats 1600000 in
theorem known_any (w : World) (hT : Tab w) : Calls Tryd.prog 15 #[] w fun e w' => e = .returned (.bool true) ∧ G w w' := by
  have HT := Lib.hid hT
  clear hT
  go_enter Tryd.func15, Tryd.ntmps15
  go_wp2_with fail
  refine (iBetween_ok 0 0 4 2 (-1) 4 _ okA okB (HT.out.later (by (repeat' (first | (with_reducible exact G.refl _) | (with_reducible assumption) | (with_reducible refine G.drewN ?_ _) | (with_reducible refine G.drew ?_) | (with_reducible refine G.alloc ?_ _) | (with_reducible refine G.setCell ?_ (by first | (with_reducible exact Nat.le_refl _) | (simp; done) | (simp; omega) | omega) _) | (with_reducible refine G.trans ?_ (by assumption)))))).hts).mono ?_
  rintro e w1 ⟨rfl, hG1⟩
  rw [btw.1, btw.2]
  go_wp2_with fail
  refine (iText_23 _ (HT.out.later (by (repeat' (first | (with_reducible exact G.refl _) | (with_reducible assumption) | (with_reducible refine G.drewN ?_ _) | (with_reducible refine G.drew ?_) | (with_reducible refine G.alloc ?_ _) | (with_reducible refine G.setCell ?_ (by first | (with_reducible exact Nat.le_refl _) | (simp; done) | (simp; omega) | omega) _) | (with_reducible refine G.trans ?_ (by assumption)))))).hts (HT.out.later (by (repeat' (first | (with_reducible exact G.refl _) | (with_reducible assumption) | (with_reducible refine G.drewN ?_ _) | (with_reducible refine G.drew ?_) | (with_reducible refine G.alloc ?_ _) | (with_reducible refine G.setCell ?_ (by first | (with_reducible exact Nat.le_refl _) | (simp; done) | (simp; omega) | omega) _) | (with_reducible refine G.trans ?_ (by assumption)))))).fam).mono ?_
  rintro e w2 ⟨rfl, hG2⟩
  go_wp2_with fail
  refine (iTranspose_ok 3 2 4 0 1 _ okC iv01 (by decide) (by decide) ne68 (HT.out.later (by (repeat' (first | (with_reducible exact G.refl _) | (with_reducible assumption) | (with_reducible refine G.drewN ?_ _) | (with_reducible refine G.drew ?_) | (with_reducible refine G.alloc ?_ _) | (with_reducible refine G.setCell ?_ (by first | (with_reducible exact Nat.le_refl _) | (simp; done) | (simp; omega) | omega) _) | (with_reducible refine G.trans ?_ (by assumption)))))).hts).mono ?_
  rintro e w3 ⟨rfl, hG3⟩
  rw [tr01]
  obtain ⟨y0, y1⟩ := duo_later hG2
  have g23 : G w2 w3 := G.trans (by (repeat' (first | (with_reducible exact G.refl _) | (with_reducible refine G.drewN ?_ _) | (with_reducible refine G.drew ?_) | (with_reducible refine G.alloc ?_ _)))) hG3
  replace y0 := g23.at y0
  replace y1 := g23.at y1
  go_wp2_with fail
  go_ret
  exact ⟨rfl, by (repeat' (first | (with_reducible exact G.refl _) | (with_reducible assumption) | (with_reducible refine G.drewN ?_ _) | (with_reducible refine G.drew ?_) | (with_reducible refine G.alloc ?_ _) | (with_reducible refine G.setCell ?_ (by first | (with_reducible exact Nat.le_refl _) | (simp; done) | (simp; omega) | omega) _) | (with_reducible refine G.trans ?_ (by assumption))))⟩
end Go.Proofs.YtkooggakngheoaaDoor
