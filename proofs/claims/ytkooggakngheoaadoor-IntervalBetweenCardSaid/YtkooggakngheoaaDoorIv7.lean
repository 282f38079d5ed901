import Derived.Test.YtkooggakngheoaaDoorIv6
import Derived.Test.YtkooggakngheoaaDoorShelf
/-! Intervals: the short name of the example. -/
namespace Go.Proofs.YtkooggakngheoaaDoor
open Go.RowKit
attribute [local go_sem] World.cell?_alloc_some

theorem iv23 : Iv 2 3 := by decide
theorem q23 : qQ 2 3 = -1 ∧ qT 2 3 = 0 ∧ us 2 3 = 2 ∧ ut 2 3 = 3 ∧ decide (dn 2 3) = false := by decide
set_option maxRecDepth 20000 in
set_option maxHeartbeats 1600000 in
theorem iText_23 (w : World) (hT : Hts w) (hF : Fam w) :
    Calls Tryd.prog 38 #[.agg #[.int .i64 2, .int .i64 3]] w fun e w' => e = .returned (.tuple #[.string ⟨#[109, 51]⟩, .int .i64 0]) ∧ G w w' := by
  have HT := Lib.hid (And.intro hT hF)
  clear hT hF
  go_enter Tryd.func38, Tryd.ntmps38
  go_wp2_with fail
  refine (iQuality_ok 2 3 _ iv23 (HT.out.1.later (by (repeat' (first | (with_reducible exact G.refl _) | (with_reducible assumption) | (with_reducible refine G.drewN ?_ _) | (with_reducible refine G.drew ?_) | (with_reducible refine G.alloc ?_ _) | (with_reducible refine G.setCell ?_ (by first | (with_reducible exact Nat.le_refl _) | (simp; done) | (simp; omega) | omega) _) | (with_reducible refine G.trans ?_ (by assumption)))))) (HT.out.2.later (by (repeat' (first | (with_reducible exact G.refl _) | (with_reducible assumption) | (with_reducible refine G.drewN ?_ _) | (with_reducible refine G.drew ?_) | (with_reducible refine G.alloc ?_ _) | (with_reducible refine G.setCell ?_ (by first | (with_reducible exact Nat.le_refl _) | (simp; done) | (simp; omega) | omega) _) | (with_reducible refine G.trans ?_ (by assumption))))))).mono ?_
  rintro e w1 ⟨rfl, hG⟩
  rw [q23.1, q23.2.1]
  obtain ⟨y0, y1⟩ := duo_later hG
  go_wp2_with fail
  refine (upward_any 2 3 _ iv23).mono ?_
  rintro e w2 ⟨rfl, hG2⟩
  rw [q23.2.2.1, q23.2.2.2.1, q23.2.2.2.2]
  clear y0 y1
  have gw2 : G w w2 := by (repeat' (first | (with_reducible exact G.refl _) | (with_reducible assumption) | (with_reducible refine G.drewN ?_ _) | (with_reducible refine G.drew ?_) | (with_reducible refine G.alloc ?_ _) | (with_reducible refine G.setCell ?_ (by first | (with_reducible exact Nat.le_refl _) | (simp; done) | (simp; omega) | omega) _) | (with_reducible refine G.trans ?_ (by assumption))))
  have gb : G (w2.alloc (.cells #[.int .i64 2, .int .i64 3] 23)) (w2.alloc (.cells #[.int .i64 2, .int .i64 3] 23)) := G.refl _
  have gw : G w2 (w2.alloc (.cells #[.int .i64 2, .int .i64 3] 23)) := by (repeat' (first | (with_reducible exact G.refl _) | (with_reducible refine G.drewN ?_ _) | (with_reducible refine G.drew ?_) | (with_reducible refine G.alloc ?_ _)))
  go_wp2_with fail
  have hm : ((⟨#[100, 109, 80, 77, 65]⟩ : ByteArray).extract 1 5).extract 0 1 = ⟨#[109]⟩ := by decide
  rw [hm]
  have h3 : (⟨(Lib.decDigits 3).toArray⟩ : ByteArray) = ⟨#[51]⟩ := by decide +kernel
  have s1 : (⟨#[109]⟩ : ByteArray).size = 1 := rfl
  have s2 : (⟨#[51]⟩ : ByteArray).size = 1 := rfl
  go_region_held3 (fun w' => w'.cell? ⟨w2.heap.size, 0, none⟩ = some (.int .i64 2) ∧ w'.cell? ⟨w2.heap.size, 1, none⟩ = some (.int .i64 3))
    (first | (with_reducible assumption) | ((try dsimp only); (repeat' (with_reducible apply And.intro)) <;> go_simp))
    (first | (go_at_call 59; refine (Tryd.strings_Repeat_one ⟨#[109]⟩ _).mono ?_; rintro e w9 ⟨rfl, rfl⟩) | (go_at_call 60; refine (Tryd.strconv_Itoa_small 3 (by decide) _).mono ?_; rintro e w9 ⟨rfl, rfl⟩; rw [h3]))
  all_goals
    go_wp2_with fail
    go_returns
    refine ⟨?_, by (repeat' (first | (with_reducible exact G.refl _) | (with_reducible assumption) | (with_reducible refine G.drewN ?_ _) | (with_reducible refine G.drew ?_) | (with_reducible refine G.alloc ?_ _) | (with_reducible refine G.setCell ?_ (by first | (with_reducible exact Nat.le_refl _) | (simp; done) | (simp; omega) | omega) _) | (with_reducible refine G.trans ?_ (by assumption))))⟩
    rfl
end Go.Proofs.YtkooggakngheoaaDoor
