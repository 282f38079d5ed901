import Derived.Test.YtkooggakngheoaaDoorIv13
/-! Intervals: Exact. -/
namespace Go.Proofs.YtkooggakngheoaaDoor
open Go.RowKit
attribute [local go_sem] World.cell?_alloc_some

set_option maxRecDepth 20000 in
set_option maxHeartbeats 3200000 in
theorem iExact_any (s a o x y : Int) (w : World) (hT : Hts w) :
    Calls Tryd.prog 22 #[.agg #[.int .i64 s, .int .i64 a, .int .i64 o], .agg #[.int .i64 x, .int .i64 y]] w fun e w' => e = .returned (.tuple #[.agg #[.int .i64 (exR s a o x y).1, .int .i64 (exR s a o x y).2.1, .int .i64 (exR s a o x y).2.2], .int .i64 (exE s a o x y)]) ∧ G w w' := by
  have HT := Lib.hid hT
  have gb := G.refl (((w.alloc (.cells #[.int .i64 s, .int .i64 a, .int .i64 o] 41)).alloc (.cells #[.int .i64 x, .int .i64 y] 23)).alloc (.cells #[.int .i64 0, .int .i64 0, .int .i64 0] 41))
  have gw : G w (((w.alloc (.cells #[.int .i64 s, .int .i64 a, .int .i64 o] 41)).alloc (.cells #[.int .i64 x, .int .i64 y] 23)).alloc (.cells #[.int .i64 0, .int .i64 0, .int .i64 0] 41)) := by (repeat' (first | (with_reducible exact G.refl _) | (with_reducible refine G.drewN ?_ _) | (with_reducible refine G.drew ?_) | (with_reducible refine G.alloc ?_ _)))
  obtain ⟨t, ht⟩ : ∃ z : Int × Int × Int, Hid (z = trR s a o x y) := ⟨_, rfl⟩
  clear hT
  by_cases c : trE s a o x y = 0
  · have HE := Lib.hid c
    obtain ⟨ho, hi, _, _⟩ := trE_ok c
    obtain ⟨ok2, h2⟩ := trP_ok c
    have hk := exE_iff c
    have e1 : trR s a o x y = trP s a o x y := if_pos c
    rw [← e1, ← ht.out] at ok2 h2 hk
    have HO := Lib.hid ho
    have HP := Lib.hid ok2
    obtain ⟨D, hD⟩ : ∃ z : Int, Hid (z = 7 * t.2.2 + t.1 - (7 * o + s)) := ⟨_, rfl⟩
    have hB := Lib.hid (show Go.Proofs.YtkooggakngheoaaDoor.ht t.1 t.2.1 t.2.2 - Go.Proofs.YtkooggakngheoaaDoor.ht s a o = y by have : hP t = Go.Proofs.YtkooggakngheoaaDoor.ht t.1 t.2.1 t.2.2 := rfl; omega)
    have hk2 : exE s a o x y = 0 ↔ D = x := by
      rw [hk, kP_ok ok2, hD.out, show k2 s a o = 7 * o + s from if_pos ho]; omega
    have HX := Lib.hid (show exR s a o x y = if D = x then t else (0, 0, 0) by
      unfold exR; rw [← e1, ← ht.out]; by_cases z : D = x
      · rw [if_pos z, if_pos (hk2.2 z)]
      · rw [if_neg z, if_neg (fun k => z (hk2.1 k))])
    have HX2 := Lib.hid (show exE s a o x y = if D = x then 0 else 18 by
      by_cases z : D = x
      · rw [if_pos z]; exact hk2.2 z
      · rw [if_neg z]
        unfold exE at hk2 ⊢
        rw [if_pos c] at hk2 ⊢
        by_cases q : (exO s a o x y).isSome = true
        · rw [if_pos q] at hk2; exact absurd (hk2.1 rfl) z
        · rw [if_neg q])
    rw [HX.out, HX2.out]
    obtain ⟨t1, t2, t3⟩ := t
    dsimp only at hB HP hD
    clear c ho hi ok2 h2 hk hk2 e1
    by_cases z : D = x
    · subst z
      rw [if_pos rfl, if_pos rfl]
      clear HX HX2
      go_enter Tryd.func22, Tryd.ntmps22
      go_wp2_with fail
      refine (iTranspose_any s a o D y _ (HT.out.later (by (repeat' (first | (with_reducible exact G.refl _) | (with_reducible assumption) | (with_reducible refine G.drewN ?_ _) | (with_reducible refine G.drew ?_) | (with_reducible refine G.alloc ?_ _) | (with_reducible refine G.setCell ?_ (by first | (with_reducible exact Nat.le_refl _) | (simp; done) | (simp; omega) | omega) _) | (with_reducible refine G.trans ?_ (by assumption))))))).mono ?_
      rintro e w1 ⟨rfl, hG⟩
      rw [HE.out, ← ht.out]
      have gq := gb.trans (G.trans (by (repeat' (first | (with_reducible exact G.refl _) | (with_reducible refine G.drewN ?_ _) | (with_reducible refine G.drew ?_) | (with_reducible refine G.alloc ?_ _)))) hG)
      clear gb
      obtain ⟨⟨y0, y1, y2⟩, ⟨y3, y4⟩, ⟨y5, y6, y7⟩, f0, f1, f2⟩ := tdt_later gq
      go_wp2_with fail
      refine (iBetween_ok s a o t1 t2 t3 _ HO.out HP.out (HT.out.later (gw.trans (gq.trans (by (repeat' (first | (with_reducible exact G.refl _) | (with_reducible refine G.drewN ?_ _) | (with_reducible refine G.drew ?_) | (with_reducible refine G.alloc ?_ _)))))))).mono ?_
      rintro e w2 ⟨rfl, hG2⟩
      rw [← hD.out, hB.out]
      clear y0 y1 y2 y3 y4 y5 y6 y7 f0 f1 f2
      have gq3 := ((gq.alloc (.cells #[.int .i64 t1, .int .i64 t2, .int .i64 t3] 41)).trans hG2).alloc (.cells #[.int .i64 D, .int .i64 y] 23)
      obtain ⟨⟨y0, y1, y2⟩, ⟨y3, y4⟩, ⟨y5, y6, y7⟩, f0, f1, f2⟩ := tdt_later gq3
      obtain ⟨z0, z1, z2⟩ := tri_later hG2
      go_wp2_with fail
      refine bodyPost_ret (v := .tuple #[.agg #[.int .i64 t1, .int .i64 t2, .int .i64 t3], .int .i64 0]) (by simp [results, Tryd.results22, go_sem, y5, y6, y7]) rfl ⟨rfl, ?_⟩
      have gfin := gw.trans gq3
      (repeat' (first | (with_reducible exact G.refl _) | (with_reducible assumption) | (with_reducible refine G.drewN ?_ _) | (with_reducible refine G.drew ?_) | (with_reducible refine G.alloc ?_ _) | (with_reducible refine G.setCell ?_ (by first | (with_reducible exact Nat.le_refl _) | (simp; done) | (simp; omega) | omega) _) | (with_reducible refine G.trans ?_ (by assumption))))
    · rw [if_neg z, if_neg z]
      have hz : (D == x) = false := beq_false_of_ne z
      clear HX HX2 z
      go_enter Tryd.func22, Tryd.ntmps22
      go_wp2_with fail
      refine (iTranspose_any s a o x y _ (HT.out.later (by (repeat' (first | (with_reducible exact G.refl _) | (with_reducible assumption) | (with_reducible refine G.drewN ?_ _) | (with_reducible refine G.drew ?_) | (with_reducible refine G.alloc ?_ _) | (with_reducible refine G.setCell ?_ (by first | (with_reducible exact Nat.le_refl _) | (simp; done) | (simp; omega) | omega) _) | (with_reducible refine G.trans ?_ (by assumption))))))).mono ?_
      rintro e w1 ⟨rfl, hG⟩
      rw [HE.out, ← ht.out]
      have gq := gb.trans (G.trans (by (repeat' (first | (with_reducible exact G.refl _) | (with_reducible refine G.drewN ?_ _) | (with_reducible refine G.drew ?_) | (with_reducible refine G.alloc ?_ _)))) hG)
      clear gb
      obtain ⟨⟨y0, y1, y2⟩, ⟨y3, y4⟩, ⟨y5, y6, y7⟩, f0, f1, f2⟩ := tdt_later gq
      go_wp2_with fail
      refine (iBetween_ok s a o t1 t2 t3 _ HO.out HP.out (HT.out.later (gw.trans (gq.trans (by (repeat' (first | (with_reducible exact G.refl _) | (with_reducible refine G.drewN ?_ _) | (with_reducible refine G.drew ?_) | (with_reducible refine G.alloc ?_ _)))))))).mono ?_
      rintro e w2 ⟨rfl, hG2⟩
      rw [← hD.out, hB.out]
      clear y0 y1 y2 y3 y4 y5 y6 y7 f0 f1 f2
      have gq3 := ((gq.alloc (.cells #[.int .i64 t1, .int .i64 t2, .int .i64 t3] 41)).trans hG2).alloc (.cells #[.int .i64 D, .int .i64 y] 23)
      obtain ⟨⟨y0, y1, y2⟩, ⟨y3, y4⟩, ⟨y5, y6, y7⟩, f0, f1, f2⟩ := tdt_later gq3
      obtain ⟨z0, z1, z2⟩ := tri_later hG2
      go_wp2_with fail
      refine bodyPost_ret (v := .tuple #[.agg #[.int .i64 0, .int .i64 0, .int .i64 0], .int .i64 18]) (by simp [results, Tryd.results22, go_sem, y5, y6, y7]) rfl ⟨rfl, ?_⟩
      have gfin := gw.trans gq3
      (repeat' (first | (with_reducible exact G.refl _) | (with_reducible assumption) | (with_reducible refine G.drewN ?_ _) | (with_reducible refine G.drew ?_) | (with_reducible refine G.alloc ?_ _) | (with_reducible refine G.setCell ?_ (by first | (with_reducible exact Nat.le_refl _) | (simp; done) | (simp; omega) | omega) _) | (with_reducible refine G.trans ?_ (by assumption))))
  · have e1 : trR s a o x y = (0, 0, 0) := if_neg c
    have e2 : exE s a o x y = trE s a o x y := if_neg c
    have e3 : exR s a o x y = (0, 0, 0) := if_neg (by rw [e2]; exact c)
    rw [e2, e3]
    obtain ⟨E, hE⟩ : ∃ z : Int, Hid (z = trE s a o x y) := ⟨_, rfl⟩
    rw [← hE.out] at c ⊢
    have hE0 : (E == 0) = false := beq_false_of_ne c
    have e4 := Lib.hid e1
    clear e1 e2 e3 c
    go_enter Tryd.func22, Tryd.ntmps22
    go_wp2_with fail
    refine (iTranspose_any s a o x y _ (HT.out.later (by (repeat' (first | (with_reducible exact G.refl _) | (with_reducible assumption) | (with_reducible refine G.drewN ?_ _) | (with_reducible refine G.drew ?_) | (with_reducible refine G.alloc ?_ _) | (with_reducible refine G.setCell ?_ (by first | (with_reducible exact Nat.le_refl _) | (simp; done) | (simp; omega) | omega) _) | (with_reducible refine G.trans ?_ (by assumption))))))).mono ?_
    rintro e w1 ⟨rfl, hG⟩
    rw [← hE.out, e4.out]
    have gq := gb.trans (G.trans (by (repeat' (first | (with_reducible exact G.refl _) | (with_reducible refine G.drewN ?_ _) | (with_reducible refine G.drew ?_) | (with_reducible refine G.alloc ?_ _)))) hG)
    clear gb
    obtain ⟨⟨y0, y1, y2⟩, ⟨y3, y4⟩, ⟨y5, y6, y7⟩, f0, f1, f2⟩ := tdt_later (gq.alloc (.cells #[.int .i64 0, .int .i64 0, .int .i64 0] 41))
    go_wp2_with fail
    refine bodyPost_ret (v := .tuple #[.agg #[.int .i64 0, .int .i64 0, .int .i64 0], .int .i64 E]) (by simp [results, Tryd.results22, go_sem, y5, y6, y7]) rfl ⟨rfl, ?_⟩
    have gfin := gw.trans gq
    (repeat' (first | (with_reducible exact G.refl _) | (with_reducible assumption) | (with_reducible refine G.drewN ?_ _) | (with_reducible refine G.drew ?_) | (with_reducible refine G.alloc ?_ _) | (with_reducible refine G.setCell ?_ (by first | (with_reducible exact Nat.le_refl _) | (simp; done) | (simp; omega) | omega) _) | (with_reducible refine G.trans ?_ (by assumption))))
end Go.Proofs.YtkooggakngheoaaDoor
