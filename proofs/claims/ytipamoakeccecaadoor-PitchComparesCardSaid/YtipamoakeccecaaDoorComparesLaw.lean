/- PitchCompares: for every three pitches, Compare answers as the reference does, is antisymmetric and transitive, and is 0 for no two different pitches that exist; the arguments read as before; the tables and variables that the row lists are tied to the program text; no further condition. -/
import Derived.Test.YtipamoakeccecaaDoorArg
import Derived.Test.YtipamoakeccecaaDoorRCmp2
import Derived.Test.YtipamoakeccecaaDoorKnown
namespace Go.Proofs.YtipamoakeccecaaDoor
open Go.RowKit
attribute [local go_sem] World.cell?_alloc_some

theorem nine_later {w w1 : World} {a b c d e f g i j : Value} {t : TypeId} (h : G (((w.alloc (.cells #[a, b, c] t)).alloc (.cells #[d, e, f] t)).alloc (.cells #[g, i, j] t)) w1) :
    w1.cell? ⟨w.heap.size, 0, none⟩ = some a ∧ w1.cell? ⟨w.heap.size, 1, none⟩ = some b ∧ w1.cell? ⟨w.heap.size, 2, none⟩ = some c ∧ w1.cell? ⟨w.heap.size + 1, 0, none⟩ = some d ∧ w1.cell? ⟨w.heap.size + 1, 1, none⟩ = some e ∧ w1.cell? ⟨w.heap.size + 1, 2, none⟩ = some f ∧
    w1.cell? ⟨w.heap.size + 1 + 1, 0, none⟩ = some g ∧ w1.cell? ⟨w.heap.size + 1 + 1, 1, none⟩ = some i ∧ w1.cell? ⟨w.heap.size + 1 + 1, 2, none⟩ = some j := by
  refine ⟨?_, ?_, ?_, ?_, ?_, ?_, ?_, ?_, ?_⟩ <;> (refine (h.cell (by simp; try omega)).trans ?_; go_cell)

set_option maxRecDepth 100000 in
set_option maxHeartbeats 16000000 in
theorem compares_walk (s a o x b c u v t : Int) (w : World) (_ : -9223372036854775808 ≤ s) (_ : s ≤ 9223372036854775807) (_ : -9223372036854775808 ≤ a) (_ : a ≤ 9223372036854775807) (_ : -9223372036854775808 ≤ o) (_ : o ≤ 9223372036854775807)
    (_ : -9223372036854775808 ≤ x) (_ : x ≤ 9223372036854775807) (_ : -9223372036854775808 ≤ b) (_ : b ≤ 9223372036854775807) (_ : -9223372036854775808 ≤ c) (_ : c ≤ 9223372036854775807)
    (_ : -9223372036854775808 ≤ u) (_ : u ≤ 9223372036854775807) (_ : -9223372036854775808 ≤ v) (_ : v ≤ 9223372036854775807) (_ : -9223372036854775808 ≤ t) (_ : t ≤ 9223372036854775807) (hT : Tab w) :
    Calls Tryd.prog 3 #[.agg #[.int .i64 s, .int .i64 a, .int .i64 o], .agg #[.int .i64 x, .int .i64 b, .int .i64 c], .agg #[.int .i64 u, .int .i64 v, .int .i64 t]] w fun e w' => e = .returned (.bool true) ∧ G w w' := by
  have HT := Lib.hid hT
  clear hT
  obtain ⟨X, hX⟩ : ∃ z : Int, Hid (z = lex (k1 s a o) (k2 s a o) (k1 x b c) (k2 x b c)) := ⟨_, rfl⟩
  obtain ⟨Y, hY⟩ : ∃ z : Int, Hid (z = lex (k1 x b c) (k2 x b c) (k1 u v t) (k2 u v t)) := ⟨_, rfl⟩
  obtain ⟨Z, hZ⟩ : ∃ z : Int, Hid (z = lex (k1 s a o) (k2 s a o) (k1 u v t) (k2 u v t)) := ⟨_, rfl⟩
  have hN := Lib.hid (show lex (k1 x b c) (k2 x b c) (k1 s a o) (k2 s a o) = -X by rw [hX.out]; exact lex_neg _ _ _ _)
  have bX : -1 ≤ X ∧ X ≤ 1 := by rw [hX.out]; exact lex_bd _ _ _ _
  have HL := Lib.hid (show X ≤ 0 → Y ≤ 0 → Z ≤ 0 by rw [hX.out, hY.out, hZ.out]; exact lex_le)
  have HE := Lib.hid (show X = 0 → Ok s a o → s = x ∧ a = b ∧ o = c from fun e h => by
    rw [hX.out] at e
    obtain ⟨e1, e2⟩ := lex_zero e
    exact k_inj h e1 e2)
  obtain ⟨b0, b1⟩ := bX
  have q := IntWalk.i64_in (-X) (by omega)
  by_cases c1 : 0 < X
  · have n0 : X ≠ 0 := by omega
    clear b0 b1
    go_enter Tryd.func3, Tryd.ntmps3
    go_wp2_with fail
    have gb := G.refl (((w.alloc (.cells #[.int .i64 s, .int .i64 a, .int .i64 o] 23)).alloc (.cells #[.int .i64 x, .int .i64 b, .int .i64 c] 23)).alloc (.cells #[.int .i64 u, .int .i64 v, .int .i64 t] 23))
    go_region_held3 (fun w' => w'.cell? ⟨w.heap.size, 0, none⟩ = some (.int .i64 s) ∧ w'.cell? ⟨w.heap.size, 1, none⟩ = some (.int .i64 a) ∧ w'.cell? ⟨w.heap.size, 2, none⟩ = some (.int .i64 o) ∧ w'.cell? ⟨w.heap.size + 1, 0, none⟩ = some (.int .i64 x) ∧ w'.cell? ⟨w.heap.size + 1, 1, none⟩ = some (.int .i64 b) ∧ w'.cell? ⟨w.heap.size + 1, 2, none⟩ = some (.int .i64 c) ∧ w'.cell? ⟨w.heap.size + 1 + 1, 0, none⟩ = some (.int .i64 u) ∧ w'.cell? ⟨w.heap.size + 1 + 1, 1, none⟩ = some (.int .i64 v) ∧ w'.cell? ⟨w.heap.size + 1 + 1, 2, none⟩ = some (.int .i64 t))
      (first | (with_reducible assumption) | ((try dsimp only); (repeat' (with_reducible apply And.intro)) <;> go_simp))
      (first | (go_at_call 4; refine (Compare_any _ _ _ _ _ _ _ ((HT.out.later (by (repeat' (first | (with_reducible exact G.refl _) | (with_reducible assumption) | (with_reducible refine G.drewN ?_ _) | (with_reducible refine G.drew ?_) | (with_reducible refine G.alloc ?_ _) | (with_reducible refine G.setCell ?_ (by first | (with_reducible exact Nat.le_refl _) | (simp; done) | (simp; omega) | omega) _) | (with_reducible refine G.trans ?_ (by assumption)))))).hts)).mono ?_; rintro e w1 ⟨rfl, hG⟩; (first | rw [← hX.out] | rw [← hY.out] | rw [← hZ.out]); have gq := gb.trans (G.trans (by (repeat' (first | (with_reducible exact G.refl _) | (with_reducible refine G.drewN ?_ _) | (with_reducible refine G.drew ?_) | (with_reducible refine G.alloc ?_ _)))) hG); clear gb; have gb := gq; obtain ⟨y0, y1, y2, y3, y4, y5, y6, y7, y8⟩ := nine_later gb))
    have gw : G w (((w.alloc (.cells #[.int .i64 s, .int .i64 a, .int .i64 o] 23)).alloc (.cells #[.int .i64 x, .int .i64 b, .int .i64 c] 23)).alloc (.cells #[.int .i64 u, .int .i64 v, .int .i64 t] 23)) := by (repeat' (first | (with_reducible exact G.refl _) | (with_reducible refine G.drewN ?_ _) | (with_reducible refine G.drew ?_) | (with_reducible refine G.alloc ?_ _)))
    go_wp2_with fail
    refine (known_any _ (HT.out.later (gw.trans (gb.trans (by (repeat' (first | (with_reducible exact G.refl _) | (with_reducible refine G.drewN ?_ _) | (with_reducible refine G.drew ?_) | (with_reducible refine G.alloc ?_ _)))))))).mono ?_
    rintro e w4 ⟨rfl, hG4⟩
    have gb4 := gb.trans (G.trans (by (repeat' (first | (with_reducible exact G.refl _) | (with_reducible refine G.drewN ?_ _) | (with_reducible refine G.drew ?_) | (with_reducible refine G.alloc ?_ _)))) hG4)
    clear y0 y1 y2 y3 y4 y5 y6 y7 y8
    obtain ⟨y0, y1, y2, y3, y4, y5, y6, y7, y8⟩ := nine_later gb4
    go_wp2_with fail
    refine (rCompare_any s a o x b c _).mono ?_
    rintro e w5 ⟨rfl, hG5⟩
    rw [← hX.out]
    have gb5 := gb4.trans hG5
    clear y0 y1 y2 y3 y4 y5 y6 y7 y8
    obtain ⟨y0, y1, y2, y3, y4, y5, y6, y7, y8⟩ := nine_later gb5
    go_wp2_with fail
    refine (Compare_any x b c s a o _ ((HT.out.later (gw.trans gb5)).hts)).mono ?_
    rintro e w6 ⟨rfl, hG6⟩
    rw [hN.out]
    have gb6 := gb5.trans hG6
    clear y0 y1 y2 y3 y4 y5 y6 y7 y8
    obtain ⟨y0, y1, y2, y3, y4, y5, y6, y7, y8⟩ := nine_later gb6
    go_wp2_with fail
    go_ret
    exact ⟨rfl, gw.trans gb6⟩
  by_cases c2 : X < 0
  · have n0 : X ≠ 0 := by omega
    by_cases c3 : 0 < Y
    · clear b0 b1
      go_enter Tryd.func3, Tryd.ntmps3
      go_wp2_with fail
      have gb := G.refl (((w.alloc (.cells #[.int .i64 s, .int .i64 a, .int .i64 o] 23)).alloc (.cells #[.int .i64 x, .int .i64 b, .int .i64 c] 23)).alloc (.cells #[.int .i64 u, .int .i64 v, .int .i64 t] 23))
      go_region_held3 (fun w' => w'.cell? ⟨w.heap.size, 0, none⟩ = some (.int .i64 s) ∧ w'.cell? ⟨w.heap.size, 1, none⟩ = some (.int .i64 a) ∧ w'.cell? ⟨w.heap.size, 2, none⟩ = some (.int .i64 o) ∧ w'.cell? ⟨w.heap.size + 1, 0, none⟩ = some (.int .i64 x) ∧ w'.cell? ⟨w.heap.size + 1, 1, none⟩ = some (.int .i64 b) ∧ w'.cell? ⟨w.heap.size + 1, 2, none⟩ = some (.int .i64 c) ∧ w'.cell? ⟨w.heap.size + 1 + 1, 0, none⟩ = some (.int .i64 u) ∧ w'.cell? ⟨w.heap.size + 1 + 1, 1, none⟩ = some (.int .i64 v) ∧ w'.cell? ⟨w.heap.size + 1 + 1, 2, none⟩ = some (.int .i64 t))
        (first | (with_reducible assumption) | ((try dsimp only); (repeat' (with_reducible apply And.intro)) <;> go_simp))
        (first | (go_at_call 4; refine (Compare_any _ _ _ _ _ _ _ ((HT.out.later (by (repeat' (first | (with_reducible exact G.refl _) | (with_reducible assumption) | (with_reducible refine G.drewN ?_ _) | (with_reducible refine G.drew ?_) | (with_reducible refine G.alloc ?_ _) | (with_reducible refine G.setCell ?_ (by first | (with_reducible exact Nat.le_refl _) | (simp; done) | (simp; omega) | omega) _) | (with_reducible refine G.trans ?_ (by assumption)))))).hts)).mono ?_; rintro e w1 ⟨rfl, hG⟩; (first | rw [← hX.out] | rw [← hY.out] | rw [← hZ.out]); have gq := gb.trans (G.trans (by (repeat' (first | (with_reducible exact G.refl _) | (with_reducible refine G.drewN ?_ _) | (with_reducible refine G.drew ?_) | (with_reducible refine G.alloc ?_ _)))) hG); clear gb; have gb := gq; obtain ⟨y0, y1, y2, y3, y4, y5, y6, y7, y8⟩ := nine_later gb))
      have gw : G w (((w.alloc (.cells #[.int .i64 s, .int .i64 a, .int .i64 o] 23)).alloc (.cells #[.int .i64 x, .int .i64 b, .int .i64 c] 23)).alloc (.cells #[.int .i64 u, .int .i64 v, .int .i64 t] 23)) := by (repeat' (first | (with_reducible exact G.refl _) | (with_reducible refine G.drewN ?_ _) | (with_reducible refine G.drew ?_) | (with_reducible refine G.alloc ?_ _)))
      go_wp2_with fail
      refine (known_any _ (HT.out.later (gw.trans (gb.trans (by (repeat' (first | (with_reducible exact G.refl _) | (with_reducible refine G.drewN ?_ _) | (with_reducible refine G.drew ?_) | (with_reducible refine G.alloc ?_ _)))))))).mono ?_
      rintro e w4 ⟨rfl, hG4⟩
      have gb4 := gb.trans (G.trans (by (repeat' (first | (with_reducible exact G.refl _) | (with_reducible refine G.drewN ?_ _) | (with_reducible refine G.drew ?_) | (with_reducible refine G.alloc ?_ _)))) hG4)
      clear y0 y1 y2 y3 y4 y5 y6 y7 y8
      obtain ⟨y0, y1, y2, y3, y4, y5, y6, y7, y8⟩ := nine_later gb4
      go_wp2_with fail
      refine (rCompare_any s a o x b c _).mono ?_
      rintro e w5 ⟨rfl, hG5⟩
      rw [← hX.out]
      have gb5 := gb4.trans hG5
      clear y0 y1 y2 y3 y4 y5 y6 y7 y8
      obtain ⟨y0, y1, y2, y3, y4, y5, y6, y7, y8⟩ := nine_later gb5
      go_wp2_with fail
      refine (Compare_any x b c s a o _ ((HT.out.later (gw.trans gb5)).hts)).mono ?_
      rintro e w6 ⟨rfl, hG6⟩
      rw [hN.out]
      have gb6 := gb5.trans hG6
      clear y0 y1 y2 y3 y4 y5 y6 y7 y8
      obtain ⟨y0, y1, y2, y3, y4, y5, y6, y7, y8⟩ := nine_later gb6
      go_wp2_with fail
      go_ret
      exact ⟨rfl, gw.trans gb6⟩
    · have c4 : Z ≤ 0 := HL.out (by omega) (by omega)
      clear b0 b1
      go_enter Tryd.func3, Tryd.ntmps3
      go_wp2_with fail
      have gb := G.refl (((w.alloc (.cells #[.int .i64 s, .int .i64 a, .int .i64 o] 23)).alloc (.cells #[.int .i64 x, .int .i64 b, .int .i64 c] 23)).alloc (.cells #[.int .i64 u, .int .i64 v, .int .i64 t] 23))
      go_region_held3 (fun w' => w'.cell? ⟨w.heap.size, 0, none⟩ = some (.int .i64 s) ∧ w'.cell? ⟨w.heap.size, 1, none⟩ = some (.int .i64 a) ∧ w'.cell? ⟨w.heap.size, 2, none⟩ = some (.int .i64 o) ∧ w'.cell? ⟨w.heap.size + 1, 0, none⟩ = some (.int .i64 x) ∧ w'.cell? ⟨w.heap.size + 1, 1, none⟩ = some (.int .i64 b) ∧ w'.cell? ⟨w.heap.size + 1, 2, none⟩ = some (.int .i64 c) ∧ w'.cell? ⟨w.heap.size + 1 + 1, 0, none⟩ = some (.int .i64 u) ∧ w'.cell? ⟨w.heap.size + 1 + 1, 1, none⟩ = some (.int .i64 v) ∧ w'.cell? ⟨w.heap.size + 1 + 1, 2, none⟩ = some (.int .i64 t))
        (first | (with_reducible assumption) | ((try dsimp only); (repeat' (with_reducible apply And.intro)) <;> go_simp))
        (first | (go_at_call 4; refine (Compare_any _ _ _ _ _ _ _ ((HT.out.later (by (repeat' (first | (with_reducible exact G.refl _) | (with_reducible assumption) | (with_reducible refine G.drewN ?_ _) | (with_reducible refine G.drew ?_) | (with_reducible refine G.alloc ?_ _) | (with_reducible refine G.setCell ?_ (by first | (with_reducible exact Nat.le_refl _) | (simp; done) | (simp; omega) | omega) _) | (with_reducible refine G.trans ?_ (by assumption)))))).hts)).mono ?_; rintro e w1 ⟨rfl, hG⟩; (first | rw [← hX.out] | rw [← hY.out] | rw [← hZ.out]); have gq := gb.trans (G.trans (by (repeat' (first | (with_reducible exact G.refl _) | (with_reducible refine G.drewN ?_ _) | (with_reducible refine G.drew ?_) | (with_reducible refine G.alloc ?_ _)))) hG); clear gb; have gb := gq; obtain ⟨y0, y1, y2, y3, y4, y5, y6, y7, y8⟩ := nine_later gb))
      have gw : G w (((w.alloc (.cells #[.int .i64 s, .int .i64 a, .int .i64 o] 23)).alloc (.cells #[.int .i64 x, .int .i64 b, .int .i64 c] 23)).alloc (.cells #[.int .i64 u, .int .i64 v, .int .i64 t] 23)) := by (repeat' (first | (with_reducible exact G.refl _) | (with_reducible refine G.drewN ?_ _) | (with_reducible refine G.drew ?_) | (with_reducible refine G.alloc ?_ _)))
      go_wp2_with fail
      refine (known_any _ (HT.out.later (gw.trans (gb.trans (by (repeat' (first | (with_reducible exact G.refl _) | (with_reducible refine G.drewN ?_ _) | (with_reducible refine G.drew ?_) | (with_reducible refine G.alloc ?_ _)))))))).mono ?_
      rintro e w4 ⟨rfl, hG4⟩
      have gb4 := gb.trans (G.trans (by (repeat' (first | (with_reducible exact G.refl _) | (with_reducible refine G.drewN ?_ _) | (with_reducible refine G.drew ?_) | (with_reducible refine G.alloc ?_ _)))) hG4)
      clear y0 y1 y2 y3 y4 y5 y6 y7 y8
      obtain ⟨y0, y1, y2, y3, y4, y5, y6, y7, y8⟩ := nine_later gb4
      go_wp2_with fail
      refine (rCompare_any s a o x b c _).mono ?_
      rintro e w5 ⟨rfl, hG5⟩
      rw [← hX.out]
      have gb5 := gb4.trans hG5
      clear y0 y1 y2 y3 y4 y5 y6 y7 y8
      obtain ⟨y0, y1, y2, y3, y4, y5, y6, y7, y8⟩ := nine_later gb5
      go_wp2_with fail
      refine (Compare_any x b c s a o _ ((HT.out.later (gw.trans gb5)).hts)).mono ?_
      rintro e w6 ⟨rfl, hG6⟩
      rw [hN.out]
      have gb6 := gb5.trans hG6
      clear y0 y1 y2 y3 y4 y5 y6 y7 y8
      obtain ⟨y0, y1, y2, y3, y4, y5, y6, y7, y8⟩ := nine_later gb6
      go_wp2_with fail
      go_ret
      exact ⟨rfl, gw.trans gb6⟩
  · have n0 : X = 0 := by omega
    have HZ : Hid (0 < Y ∨ Y ≤ 0 ∧ Z ≤ 0) := Lib.hid (by
      by_cases c3 : 0 < Y
      · exact .inl c3
      · exact .inr ⟨by omega, HL.out (by omega) (by omega)⟩)
    have HO := Lib.hid (HE.out n0)
    subst n0
    clear b0 b1 c1 c2
    by_cases k : Ok s a o
    · obtain ⟨e1, e2, e3⟩ := HO.out k
      subst e1 e2 e3
      have KO := Lib.hid (decide_eq_true k)
      clear k HO HE
      rcases HZ.out with c3 | ⟨c4, c3⟩
      all_goals
        go_enter Tryd.func3, Tryd.ntmps3
        go_wp2_with fail
        have gb := G.refl (((w.alloc (.cells #[.int .i64 s, .int .i64 a, .int .i64 o] 23)).alloc (.cells #[.int .i64 s, .int .i64 a, .int .i64 o] 23)).alloc (.cells #[.int .i64 u, .int .i64 v, .int .i64 t] 23))
        go_region_held3 (fun w' => w'.cell? ⟨w.heap.size, 0, none⟩ = some (.int .i64 s) ∧ w'.cell? ⟨w.heap.size, 1, none⟩ = some (.int .i64 a) ∧ w'.cell? ⟨w.heap.size, 2, none⟩ = some (.int .i64 o) ∧ w'.cell? ⟨w.heap.size + 1, 0, none⟩ = some (.int .i64 s) ∧ w'.cell? ⟨w.heap.size + 1, 1, none⟩ = some (.int .i64 a) ∧ w'.cell? ⟨w.heap.size + 1, 2, none⟩ = some (.int .i64 o) ∧ w'.cell? ⟨w.heap.size + 1 + 1, 0, none⟩ = some (.int .i64 u) ∧ w'.cell? ⟨w.heap.size + 1 + 1, 1, none⟩ = some (.int .i64 v) ∧ w'.cell? ⟨w.heap.size + 1 + 1, 2, none⟩ = some (.int .i64 t))
          (first | (with_reducible assumption) | ((try dsimp only); (repeat' (with_reducible apply And.intro)) <;> go_simp))
          (first | (go_at_call 4; refine (Compare_any _ _ _ _ _ _ _ ((HT.out.later (by (repeat' (first | (with_reducible exact G.refl _) | (with_reducible assumption) | (with_reducible refine G.drewN ?_ _) | (with_reducible refine G.drew ?_) | (with_reducible refine G.alloc ?_ _) | (with_reducible refine G.setCell ?_ (by first | (with_reducible exact Nat.le_refl _) | (simp; done) | (simp; omega) | omega) _) | (with_reducible refine G.trans ?_ (by assumption)))))).hts)).mono ?_; rintro e w1 ⟨rfl, hG⟩; (first | rw [← hX.out] | rw [← hY.out] | rw [← hZ.out]); have gq := gb.trans (G.trans (by (repeat' (first | (with_reducible exact G.refl _) | (with_reducible refine G.drewN ?_ _) | (with_reducible refine G.drew ?_) | (with_reducible refine G.alloc ?_ _)))) hG); clear gb; have gb := gq; obtain ⟨y0, y1, y2, y3, y4, y5, y6, y7, y8⟩ := nine_later gb))
        have gw : G w (((w.alloc (.cells #[.int .i64 s, .int .i64 a, .int .i64 o] 23)).alloc (.cells #[.int .i64 s, .int .i64 a, .int .i64 o] 23)).alloc (.cells #[.int .i64 u, .int .i64 v, .int .i64 t] 23)) := by (repeat' (first | (with_reducible exact G.refl _) | (with_reducible refine G.drewN ?_ _) | (with_reducible refine G.drew ?_) | (with_reducible refine G.alloc ?_ _)))
        go_wp2_with fail
        refine (known_any _ (HT.out.later (gw.trans (gb.trans (by (repeat' (first | (with_reducible exact G.refl _) | (with_reducible refine G.drewN ?_ _) | (with_reducible refine G.drew ?_) | (with_reducible refine G.alloc ?_ _)))))))).mono ?_
        rintro e w4 ⟨rfl, hG4⟩
        have gb4 := gb.trans (G.trans (by (repeat' (first | (with_reducible exact G.refl _) | (with_reducible refine G.drewN ?_ _) | (with_reducible refine G.drew ?_) | (with_reducible refine G.alloc ?_ _)))) hG4)
        clear y0 y1 y2 y3 y4 y5 y6 y7 y8
        obtain ⟨y0, y1, y2, y3, y4, y5, y6, y7, y8⟩ := nine_later gb4
        go_wp2_with fail
        refine (rCompare_any s a o s a o _).mono ?_
        rintro e w5 ⟨rfl, hG5⟩
        rw [← hX.out]
        have gb5 := gb4.trans hG5
        clear y0 y1 y2 y3 y4 y5 y6 y7 y8
        obtain ⟨y0, y1, y2, y3, y4, y5, y6, y7, y8⟩ := nine_later gb5
        go_wp2_with fail
        refine (Compare_any s a o s a o _ ((HT.out.later (gw.trans gb5)).hts)).mono ?_
        rintro e w6 ⟨rfl, hG6⟩
        rw [hN.out]
        have gb6 := gb5.trans hG6
        clear y0 y1 y2 y3 y4 y5 y6 y7 y8
        obtain ⟨y0, y1, y2, y3, y4, y5, y6, y7, y8⟩ := nine_later gb6
        go_wp2_with fail
        refine (rExists_any s a o _).mono ?_
        rintro e w7 ⟨rfl, hG7⟩
        rw [KO.out]
        have gb7 := gb6.trans hG7
        clear y0 y1 y2 y3 y4 y5 y6 y7 y8
        obtain ⟨y0, y1, y2, y3, y4, y5, y6, y7, y8⟩ := nine_later gb7
        go_wp2_with fail
        go_ret
        exact ⟨rfl, gw.trans gb7⟩
    · have KO := Lib.hid (decide_eq_false k)
      clear k HO HE
      rcases HZ.out with c3 | ⟨c4, c3⟩
      all_goals
        go_enter Tryd.func3, Tryd.ntmps3
        go_wp2_with fail
        have gb := G.refl (((w.alloc (.cells #[.int .i64 s, .int .i64 a, .int .i64 o] 23)).alloc (.cells #[.int .i64 x, .int .i64 b, .int .i64 c] 23)).alloc (.cells #[.int .i64 u, .int .i64 v, .int .i64 t] 23))
        go_region_held3 (fun w' => w'.cell? ⟨w.heap.size, 0, none⟩ = some (.int .i64 s) ∧ w'.cell? ⟨w.heap.size, 1, none⟩ = some (.int .i64 a) ∧ w'.cell? ⟨w.heap.size, 2, none⟩ = some (.int .i64 o) ∧ w'.cell? ⟨w.heap.size + 1, 0, none⟩ = some (.int .i64 x) ∧ w'.cell? ⟨w.heap.size + 1, 1, none⟩ = some (.int .i64 b) ∧ w'.cell? ⟨w.heap.size + 1, 2, none⟩ = some (.int .i64 c) ∧ w'.cell? ⟨w.heap.size + 1 + 1, 0, none⟩ = some (.int .i64 u) ∧ w'.cell? ⟨w.heap.size + 1 + 1, 1, none⟩ = some (.int .i64 v) ∧ w'.cell? ⟨w.heap.size + 1 + 1, 2, none⟩ = some (.int .i64 t))
          (first | (with_reducible assumption) | ((try dsimp only); (repeat' (with_reducible apply And.intro)) <;> go_simp))
          (first | (go_at_call 4; refine (Compare_any _ _ _ _ _ _ _ ((HT.out.later (by (repeat' (first | (with_reducible exact G.refl _) | (with_reducible assumption) | (with_reducible refine G.drewN ?_ _) | (with_reducible refine G.drew ?_) | (with_reducible refine G.alloc ?_ _) | (with_reducible refine G.setCell ?_ (by first | (with_reducible exact Nat.le_refl _) | (simp; done) | (simp; omega) | omega) _) | (with_reducible refine G.trans ?_ (by assumption)))))).hts)).mono ?_; rintro e w1 ⟨rfl, hG⟩; (first | rw [← hX.out] | rw [← hY.out] | rw [← hZ.out]); have gq := gb.trans (G.trans (by (repeat' (first | (with_reducible exact G.refl _) | (with_reducible refine G.drewN ?_ _) | (with_reducible refine G.drew ?_) | (with_reducible refine G.alloc ?_ _)))) hG); clear gb; have gb := gq; obtain ⟨y0, y1, y2, y3, y4, y5, y6, y7, y8⟩ := nine_later gb))
        have gw : G w (((w.alloc (.cells #[.int .i64 s, .int .i64 a, .int .i64 o] 23)).alloc (.cells #[.int .i64 x, .int .i64 b, .int .i64 c] 23)).alloc (.cells #[.int .i64 u, .int .i64 v, .int .i64 t] 23)) := by (repeat' (first | (with_reducible exact G.refl _) | (with_reducible refine G.drewN ?_ _) | (with_reducible refine G.drew ?_) | (with_reducible refine G.alloc ?_ _)))
        go_wp2_with fail
        refine (known_any _ (HT.out.later (gw.trans (gb.trans (by (repeat' (first | (with_reducible exact G.refl _) | (with_reducible refine G.drewN ?_ _) | (with_reducible refine G.drew ?_) | (with_reducible refine G.alloc ?_ _)))))))).mono ?_
        rintro e w4 ⟨rfl, hG4⟩
        have gb4 := gb.trans (G.trans (by (repeat' (first | (with_reducible exact G.refl _) | (with_reducible refine G.drewN ?_ _) | (with_reducible refine G.drew ?_) | (with_reducible refine G.alloc ?_ _)))) hG4)
        clear y0 y1 y2 y3 y4 y5 y6 y7 y8
        obtain ⟨y0, y1, y2, y3, y4, y5, y6, y7, y8⟩ := nine_later gb4
        go_wp2_with fail
        refine (rCompare_any s a o x b c _).mono ?_
        rintro e w5 ⟨rfl, hG5⟩
        rw [← hX.out]
        have gb5 := gb4.trans hG5
        clear y0 y1 y2 y3 y4 y5 y6 y7 y8
        obtain ⟨y0, y1, y2, y3, y4, y5, y6, y7, y8⟩ := nine_later gb5
        go_wp2_with fail
        refine (Compare_any x b c s a o _ ((HT.out.later (gw.trans gb5)).hts)).mono ?_
        rintro e w6 ⟨rfl, hG6⟩
        rw [hN.out]
        have gb6 := gb5.trans hG6
        clear y0 y1 y2 y3 y4 y5 y6 y7 y8
        obtain ⟨y0, y1, y2, y3, y4, y5, y6, y7, y8⟩ := nine_later gb6
        go_wp2_with fail
        refine (rExists_any s a o _).mono ?_
        rintro e w7 ⟨rfl, hG7⟩
        rw [KO.out]
        have gb7 := gb6.trans hG7
        clear y0 y1 y2 y3 y4 y5 y6 y7 y8
        obtain ⟨y0, y1, y2, y3, y4, y5, y6, y7, y8⟩ := nine_later gb7
        go_wp2_with fail
        go_ret
        exact ⟨rfl, gw.trans gb7⟩

/-! ### the row and the card -/
open Go.ChangeShapes Go.WideShapes Go.ChangeAt Go.RowKit
set_option maxRecDepth 100000 in
theorem pitchCompares_lifted (os : Os) (started : os.Started) (H : Type) (enc : TypeId × Value → H) :
    ReturnsInHanded {} Tryd.checked os 3 .any (fun w args => (Rows.pitchComparesSpec.pre enc Tryd.prog Tryd.f3 [] false w args ∧ laidMetH Tryd.prog laidL w) ∧ sizedMet enc Tryd.prog Tryd.f3 (OpenSpec.ofChange Rows.pitchComparesSpec) false w args)
      (Rows.pitchComparesSpec.post enc Tryd.prog Tryd.f3 false true false false) := by
  refine returnsInHanded_of_change_and (C := Tryd.checked) (X := fun w _ => laidMetH Tryd.prog laidL w) (fun _ _ _ hh h => h.of_heap hh) own started (by kernel_rfl) Tryd.func3
    (ChangeSpec.witness_shaped (enc := enc) (C := Tryd.checked) (os := os) (X := fun w _ => laidMetH Tryd.prog laidL w) false (World.laidAll Tryd.prog os laidL) #[.agg #[.int .i64 0, .int .i64 0, .int .i64 0], .agg #[.int .i64 0, .int .i64 0, .int .i64 0], .agg #[.int .i64 0, .int .i64 0, .int .i64 0]] 8 (World.laidAll_os _ _ _) (shapedL os) (by kernel_rfl) (by kernel_rfl) (by kernel_rfl) (laid_met os _)) ?_
  intro W base args ds gs before hval0 hW _ _ hL _
  have hval : ∀ (j : Nat) t v, Tryd.f3.params[j]? = some t → args[j]? = some v → Value.okWide Tryd.prog W .any base t v := hval0
  have hW' := hW
  obtain ⟨p, q, hA0, hV, rfl, hfz, hnd⟩ := hW
  have hA : DataW.TrodAll enc Tryd.prog W 0 (fun _ => true) true Tryd.f3.params.toList args.toList ds p := hA0
  rw [Tryd.params3] at hA hval
  obtain ⟨v0, vs0, d0, ds0, p0, q0, hargs, rfl, rfl, h0, r0⟩ := trodAll_cons hA
  obtain ⟨v1, vs1, d1, ds1, p1, q1, rfl, rfl, rfl, h1, r1⟩ := trodAll_cons r0
  obtain ⟨v2, vs2, d2, ds2, p2, q2, rfl, rfl, rfl, h2, r2⟩ := trodAll_cons r1
  obtain ⟨rfl, rfl, rfl⟩ := trodAll_nil r2
  obtain rfl : args = #[v0, v1, v2] := by cases args; simp_all
  obtain ⟨rfl, rfl⟩ := trodVars_none hV
  obtain ⟨a0, b0, c0, rfl, rfl, rfl, w0, u0, y0⟩ := open_pitch (hval 0 23 v0 rfl rfl) h0
  obtain ⟨al0, ah0⟩ := bounds_i64 w0
  obtain ⟨bl0, bh0⟩ := bounds_i64 u0
  obtain ⟨cl0, ch0⟩ := bounds_i64 y0
  obtain ⟨a1, b1, c1, rfl, rfl, rfl, w1, u1, y1⟩ := open_pitch (hval 1 23 v1 rfl rfl) h1
  obtain ⟨al1, ah1⟩ := bounds_i64 w1
  obtain ⟨bl1, bh1⟩ := bounds_i64 u1
  obtain ⟨cl1, ch1⟩ := bounds_i64 y1
  obtain ⟨a2, b2, c2, rfl, rfl, rfl, w2, u2, y2⟩ := open_pitch (hval 2 23 v2 rfl rfl) h2
  obtain ⟨al2, ah2⟩ := bounds_i64 w2
  obtain ⟨bl2, bh2⟩ := bounds_i64 u2
  obtain ⟨cl2, ch2⟩ := bounds_i64 y2
  clear hA0 hval0
  simp only [List.append_nil] at hW'
  refine (compares_walk a0 b0 c0 a1 b1 c1 a2 b2 c2 W al0 ah0 bl0 bh0 cl0 ch0 al1 ah1 bl1 bh1 cl1 ch1 al2 ah2 bl2 bh2 cl2 ch2  (tab_of_laid hL)).mono fun e W' ⟨he, hg⟩ => ?_
  subst he
  exact ⟨_, rfl, _, _, _, [], [], [], hW', (trodAll_cons_mk (shut_bool Tryd.underlying4 _) trodAll_mk0), (trodAll_cons_mk (shut_pitch w0 u0 y0) (trodAll_cons_mk (shut_pitch w1 u1 y1) (trodAll_cons_mk (shut_pitch w2 u2 y2) trodAll_mk0))), rfl, Below.frame hg _, fun h => by cases h⟩

theorem pitchCompares_holds : Rows.PitchComparesSaid :=
  OpenClaim.holds_of_wide 3 Tryd.f3 rfl rfl rfl rfl rfl rfl rfl ⟨rfl, rfl, rfl, rfl, rfl⟩ rfl rfl rfl rfl rfl (by kernel_rfl) Tryd.func3 (by kernel_rfl)
    (of_decide_eq_true (by kernel_rfl)) (by unfold Func.isWrapper; first | (rw [if_pos (by decide +kernel)]; kernel_rfl) | (rw [if_neg (by decide +kernel)]; exact ⟨rfl, rfl⟩))
    (fun os started H enc _ => pitchCompares_lifted os started H enc)

theorem pitchCompares_card : Rows.PitchComparesCardSaid :=
  Claim7.holds_tied_plain_at .later [] [.data, .data, .data, .data, .sentinel, .sentinel, .data, .data, .pinned] true (true, "6d839fde6dde4fb7f0d8ace980d69bba81384e12fed5fe44027b640d5449198e") true
    pitchCompares_holds (fun _ h => by cases h) (by kernel_rfl) (fun _ h => by cases h) pitchCompares_row_tie rfl ⟨rfl, rfl⟩ (by kernel_rfl) rfl
    (fun f fn hf hfn => by
      obtain rfl : f = 3 := Option.some.inj ((show Tryd.prog.funcNamed "hemiola/hemiolalaw05.PitchCompares" = some 3 by kernel_rfl).symm.trans hf) |>.symm
      obtain rfl : fn = Tryd.f3 := (Option.some.inj (Tryd.func3.symm.trans hfn)).symm
      exact ⟨by kernel_rfl, fun j t ht => by
        rw [Tryd.params3] at ht
        have hm : t ∈ [23, 23, 23] := by simpa using Array.mem_of_getElem? ht
        have hall : ([23, 23, 23].all fun u => !Tryd.prog.wantsStandIn u) = true := by kernel_rfl
        exact (show Tryd.prog.wantsStandIn t = false by simpa using List.all_eq_true.1 hall t hm)⟩)
    (by kernel_rfl)
#print axioms pitchCompares_card
end Go.Proofs.YtipamoakeccecaaDoor
