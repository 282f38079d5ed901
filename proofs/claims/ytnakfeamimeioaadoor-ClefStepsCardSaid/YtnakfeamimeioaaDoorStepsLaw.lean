/- ClefSteps: for every two pitches and every two clefs, a pitch an octave higher stands seven positions higher, alterations do not matter, and the distance of two pitches is the same in both clefs; the arguments read as before; the tables that the row lists are tied to the program text; no further condition. -/
import Derived.Test.YtnakfeamimeioaaDoorKnown
import Derived.Test.YtnakfeamimeioaaDoorArr
import Derived.Test.YtnakfeamimeioaaDoorC8
import Derived.BigRegion
namespace Go.Proofs.YtnakfeamimeioaaDoor
open Go.RowKit
attribute [local go_sem] World.cell?_alloc_some

theorem po_ok {c s a o : Int} (h : Cf c) (k : Ok s a o) : poV c s a o = 7 * o + s - mid c ∧ poE c s a o = 0 := by
  unfold poV poE; rw [if_pos ⟨h, k⟩, if_pos h, if_pos k]; exact ⟨rfl, rfl⟩
theorem po_bad {c s a o : Int} (h : Cf c) (k : ¬ Ok s a o) : poV c s a o = 0 ∧ poE c s a o = 18 := by
  unfold poV poE; rw [if_neg (fun z => k z.2), if_pos h, if_neg k]; exact ⟨rfl, rfl⟩
/-- the three boxes at the beginning, in a later world -/
theorem box3_later {w w1 : World} {a b c d e f : Int} {g h : Value} {t t' t'' : TypeId} (k : G (((w.alloc (.cells #[.int .i64 a, .int .i64 b, .int .i64 c] t)).alloc (.cells #[.int .i64 d, .int .i64 e, .int .i64 f] t')).alloc (.cells #[g, h] t'')) w1) :
    Bt w1 w.heap.size a b c ∧ Bt w1 (w.heap.size + 1) d e f ∧ w1.cell? ⟨w.heap.size + 1 + 1, 0, none⟩ = some g ∧ w1.cell? ⟨w.heap.size + 1 + 1, 1, none⟩ = some h := by
  refine ⟨⟨⟨?_, ?_, ?_⟩, ?_, ?_, ?_⟩, ⟨⟨?_, ?_, ?_⟩, ?_, ?_, ?_⟩, ?_, ?_⟩
  · rw [k.cell (by simp <;> omega)]; go_cell
  · rw [k.cell (by simp <;> omega)]; go_cell
  · rw [k.cell (by simp <;> omega)]; go_cell
  · rw [k.frozen (by simp <;> omega)]; simp [go_sem]
  · rw [k.frozen (by simp <;> omega)]; simp [go_sem]
  · rw [k.frozen (by simp <;> omega)]; simp [go_sem]
  · rw [k.cell (by simp)]; go_cell
  · rw [k.cell (by simp)]; go_cell
  · rw [k.cell (by simp)]; go_cell
  · rw [k.frozen (by simp)]; simp [go_sem]
  · rw [k.frozen (by simp)]; simp [go_sem]
  · rw [k.frozen (by simp)]; simp [go_sem]
  · rw [k.cell (by simp)]; go_cell
  · rw [k.cell (by simp)]; go_cell

set_option maxRecDepth 100000 in
set_option maxHeartbeats 6400000 in
theorem steps_ok (s a o x b y c d : Int) (w : World) (h : Ok s a o) (h2 : Ok x b y) (c0 : 0 ≤ c) (c1 : c ≤ 255) (d0 : 0 ≤ d) (d1 : d ≤ 255) (hT : Tab w) :
    Calls Tryd.prog 5 #[.agg #[.int .i64 s, .int .i64 a, .int .i64 o], .agg #[.int .i64 x, .int .i64 b, .int .i64 y], .agg #[.int .u8 c, .int .u8 d]] w fun e w' => e = .returned (.bool true) ∧ G w w' := by
  have HT := Lib.hid hT
  have H1 := Lib.hid (decide_eq_true h)
  have H2 := Lib.hid (decide_eq_true h2)
  have gb := G.refl (((w.alloc (.cells #[.int .i64 s, .int .i64 a, .int .i64 o] 23)).alloc (.cells #[.int .i64 x, .int .i64 b, .int .i64 y] 23)).alloc (.cells #[.int .u8 c, .int .u8 d] 38))
  have gw : G w (((w.alloc (.cells #[.int .i64 s, .int .i64 a, .int .i64 o] 23)).alloc (.cells #[.int .i64 x, .int .i64 b, .int .i64 y] 23)).alloc (.cells #[.int .u8 c, .int .u8 d] 38)) := by (repeat' (first | (with_reducible exact G.refl _) | (with_reducible refine G.drewN ?_ _) | (with_reducible refine G.drew ?_) | (with_reducible refine G.alloc ?_ _)))
  obtain ⟨C, hC⟩ : ∃ z : Int, Hid (z = 1 + c % 9) := ⟨_, rfl⟩
  obtain ⟨D, hD⟩ : ∃ z : Int, Hid (z = 1 + d % 9) := ⟨_, rfl⟩
  have HC := Lib.hid (show Cf C by rw [hC.out]; exact ⟨by omega, by omega⟩)
  have HD := Lib.hid (show Cf D by rw [hD.out]; exact ⟨by omega, by omega⟩)
  obtain ⟨A, hA⟩ : ∃ z : Int, Hid (z = 7 * o + s - mid C) := ⟨_, rfl⟩
  obtain ⟨B, hB⟩ : ∃ z : Int, Hid (z = 7 * y + x - mid C) := ⟨_, rfl⟩
  obtain ⟨X, hX⟩ : ∃ z : Int, Hid (z = 7 * o + s - mid D) := ⟨_, rfl⟩
  obtain ⟨Y, hY⟩ : ∃ z : Int, Hid (z = 7 * y + x - mid D) := ⟨_, rfl⟩
  have V1 := Lib.hid (show poV C s a o = A ∧ poE C s a o = 0 by rw [hA.out]; exact po_ok HC.out h)
  have V2 := Lib.hid (show poV C x b y = B ∧ poE C x b y = 0 by rw [hB.out]; exact po_ok HC.out h2)
  have V3 := Lib.hid (show poV D s a o = X ∧ poE D s a o = 0 by rw [hX.out]; exact po_ok HD.out h)
  have V4 := Lib.hid (show poV D x b y = Y ∧ poE D x b y = 0 by rw [hY.out]; exact po_ok HD.out h2)
  have q1 : IntKind.i64.wrap (1 + c % 9) = C := by rw [← hC.out]; exact IntWalk.i64_in C (by rw [hC.out]; omega)
  have q2 : IntKind.i64.wrap (1 + d % 9) = D := by rw [← hD.out]; exact IntWalk.i64_in D (by rw [hD.out]; omega)
  have qa : IntKind.i64.wrap (A - B) = 7 * o + s - (7 * y + x) := by
    have e : A - B = 7 * o + s - (7 * y + x) := by rw [hA.out, hB.out]; omega
    rw [e]; exact IntWalk.i64_in _ (by obtain ⟨⟨⟨_, _⟩, _, _, _⟩, _⟩ := h; obtain ⟨⟨⟨_, _⟩, _, _, _⟩, _⟩ := h2; omega)
  have qb : IntKind.i64.wrap (X - Y) = 7 * o + s - (7 * y + x) := by
    have e : X - Y = 7 * o + s - (7 * y + x) := by rw [hX.out, hY.out]; omega
    rw [e]; exact IntWalk.i64_in _ (by obtain ⟨⟨⟨_, _⟩, _, _, _⟩, _⟩ := h; obtain ⟨⟨⟨_, _⟩, _, _, _⟩, _⟩ := h2; omega)
  obtain ⟨L, hL⟩ : ∃ z : Int, Hid (z = 7 * o + s - (7 * y + x)) := ⟨_, rfl⟩
  rw [← hL.out] at qa qb
  obtain ⟨b5, z5, e5, hq1, hq2, hq3, hq⟩ : ∃ (b5 : Bool) (z5 e5 : Int), decide (Ok x 0 y) = b5 ∧ poV C x 0 y = z5 ∧ poE C x 0 y = e5 ∧ ((b5 = true ∧ z5 = B ∧ e5 = 0) ∨ (b5 = false ∧ z5 = 0 ∧ e5 = 18)) := by
    refine ⟨_, _, _, rfl, rfl, rfl, ?_⟩
    by_cases k : Ok x 0 y
    · have := po_ok HC.out k
      exact .inl ⟨decide_eq_true k, by rw [hB.out]; exact this.1, this.2⟩
    · have := po_bad HC.out k
      exact .inr ⟨decide_eq_false k, this.1, this.2⟩
  have J1 := Lib.hid hq1
  have J2 := Lib.hid hq2
  have J3 := Lib.hid hq3
  have ob : -1 ≤ o ∧ o ≤ 9 := by obtain ⟨⟨_, _, _, _⟩, _⟩ := h; omega
  have Ab : -1000 ≤ A ∧ A ≤ 1000 := by
    have := mid_bd C
    obtain ⟨⟨⟨_, _⟩, _, _, _⟩, _⟩ := h
    rw [hA.out]; omega
  obtain ⟨b6, z6, e6, hr1, hr2, hr3, hr⟩ : ∃ (b6 : Bool) (z6 e6 : Int), decide (Ok s a (o + 1)) = b6 ∧ poV C s a (o + 1) = z6 ∧ poE C s a (o + 1) = e6 ∧ ((b6 = true ∧ z6 = A + 7 ∧ e6 = 0) ∨ (b6 = false ∧ z6 = 0 ∧ e6 = 18)) := by
    refine ⟨_, _, _, rfl, rfl, rfl, ?_⟩
    by_cases k : Ok s a (o + 1)
    · have := po_ok HC.out k
      exact .inl ⟨decide_eq_true k, by rw [hA.out]; have := this.1; omega, this.2⟩
    · have := po_bad HC.out k
      exact .inr ⟨decide_eq_false k, this.1, this.2⟩
  have J4 := Lib.hid hr1
  have J5 := Lib.hid hr2
  have J6 := Lib.hid hr3
  have q7 := IntWalk.i64_in (A + 7) (by omega)
  have q8 := IntWalk.i64_in (o + 1) (by omega)
  have H9 : o = 9 ∨ (o == 9) = false := by
    by_cases k : o = 9
    · exact .inl k
    · exact .inr (beq_false_of_ne k)
  clear hq1 hq2 hq3 hr1 hr2 hr3 h h2 hT
  go_enter Tryd.func5, Tryd.ntmps5
  go_wp2_with fail
  refine (known_any _ (HT.out.later (by (repeat' (first | (with_reducible exact G.refl _) | (with_reducible assumption) | (with_reducible refine G.drewN ?_ _) | (with_reducible refine G.drew ?_) | (with_reducible refine G.alloc ?_ _) | (with_reducible refine G.setCell ?_ (by first | (with_reducible exact Nat.le_refl _) | (simp; done) | (simp; omega) | omega) _) | (with_reducible refine G.trans ?_ (by assumption))))))).mono ?_
  rintro e w1 ⟨rfl, hG1⟩
  have g1 := gb.trans hG1
  obtain ⟨P, Q, v0, v1⟩ := box3_later g1
  obtain ⟨⟨p0, p1, p2⟩, pf0, pf1, pf2⟩ := id P
  go_wp2_with fail
  refine (rExists_any s a o _).mono ?_
  rintro e w2 ⟨rfl, hG2⟩
  rw [H1.out]
  have g2 := g1.trans hG2
  clear P Q v0 v1 p0 p1 p2 pf0 pf1 pf2
  obtain ⟨P, Q, v0, v1⟩ := box3_later g2
  obtain ⟨⟨r0, r1, r2⟩, rf0, rf1, rf2⟩ := id Q
  go_wp2_with fail
  refine (rExists_any x b y _).mono ?_
  rintro e w3 ⟨rfl, hG3⟩
  rw [H2.out]
  have g3 := g2.trans hG3
  clear P Q v0 v1 r0 r1 r2 rf0 rf1 rf2
  obtain ⟨P, Q, v0, v1⟩ := box3_later g3
  go_wp2_with fail
  go_big_region
  all_goals
    have g4 : G _ w3.drew := g3.drew
    clear P Q v0 v1
    obtain ⟨P, Q, v0, v1⟩ := box3_later g4
    obtain ⟨⟨p0, p1, p2⟩, pf0, pf1, pf2⟩ := id P
    go_wp2_with fail
    refine (cPosition_any C s a o _ (HT.out.later (gw.trans g4))).mono ?_
    rintro e w4 ⟨rfl, hG4⟩
    rw [V1.out.1, V1.out.2]
    have g5 := g4.trans hG4
    clear P Q v0 v1 p0 p1 p2 pf0 pf1 pf2
    obtain ⟨P, Q, v0, v1⟩ := box3_later g5
    obtain ⟨⟨r0, r1, r2⟩, rf0, rf1, rf2⟩ := id Q
    go_wp2_with fail
    refine (cPosition_any C x b y _ (HT.out.later (gw.trans g5))).mono ?_
    rintro e w5 ⟨rfl, hG5⟩
    rw [V2.out.1, V2.out.2]
    have g6 := g5.trans hG5
    clear P Q v0 v1 r0 r1 r2 rf0 rf1 rf2
    obtain ⟨P, Q, v0, v1⟩ := box3_later g6
    obtain ⟨⟨p0, p1, p2⟩, pf0, pf1, pf2⟩ := id P
    go_wp2_with fail
    refine (cPosition_any D s a o _ (HT.out.later (gw.trans g6))).mono ?_
    rintro e w6 ⟨rfl, hG6⟩
    rw [V3.out.1, V3.out.2]
    have g7 := g6.trans hG6
    clear P Q v0 v1 p0 p1 p2 pf0 pf1 pf2
    obtain ⟨P, Q, v0, v1⟩ := box3_later g7
    obtain ⟨⟨r0, r1, r2⟩, rf0, rf1, rf2⟩ := id Q
    go_wp2_with fail
    refine (cPosition_any D x b y _ (HT.out.later (gw.trans g7))).mono ?_
    rintro e w7 ⟨rfl, hG7⟩
    rw [V4.out.1, V4.out.2]
    have g8 := g7.trans hG7
    clear P Q v0 v1 r0 r1 r2 rf0 rf1 rf2
    obtain ⟨P, Q, v0, v1⟩ := box3_later g8
    have hPs := P.other (b := w.heap.size + 1) (by omega) 1 (.int .i64 0)
    have hQs := Q.set1 0
    have gS : G w (w7.setCell ⟨w.heap.size + 1, 1, none⟩ (.int .i64 0)) := (gw.trans g8).setCell (by simp) _
    obtain ⟨⟨r0, r1, r2⟩, rf0, rf1, rf2⟩ := id Q
    obtain ⟨⟨u0, u1, u2⟩, uf0, uf1, uf2⟩ := id hQs
    go_wp2_with fail
    refine (cPosition_any C x 0 y _ (HT.out.later gS)).mono ?_
    rintro e w8 ⟨rfl, hG8⟩
    rw [J2.out, J3.out]
    have hP8 := hPs.later hG8
    have hQ8 := hQs.later hG8
    have gS8 := gS.trans hG8
    clear P Q v0 v1 r0 r1 r2 rf0 rf1 rf2 hPs hQs u0 u1 u2 uf0 uf1 uf2
    obtain ⟨⟨u0, u1, u2⟩, uf0, uf1, uf2⟩ := id hQ8
    go_wp2_with fail
    refine (rExists_any x 0 y _).mono ?_
    rintro e w9 ⟨rfl, hG9⟩
    rw [J1.out]
    have hP9 := hP8.later hG9
    have gS9 := gS8.trans hG9
    clear hP8 hQ8 u0 u1 u2 uf0 uf1 uf2
    obtain ⟨⟨p0, p1, p2⟩, pf0, pf1, pf2⟩ := id hP9
    rcases hq with ⟨rfl, rfl, rfl⟩ | ⟨rfl, rfl, rfl⟩
    all_goals
      rcases H9 with rfl | k9
      · go_wp2_with fail
        go_ret
        exact ⟨by first | rfl | simp, gS9⟩
      · have hPt := hP9.set2 (o + 1)
        have gT : G w (w9.setCell ⟨w.heap.size, 2, none⟩ (.int .i64 (o + 1))) := gS9.setCell (by simp) _
        obtain ⟨⟨t0, t1, t2⟩, tf0, tf1, tf2⟩ := id hPt
        go_wp2_with fail
        refine (cPosition_any C s a (o + 1) _ (HT.out.later gT)).mono ?_
        rintro e w10 ⟨rfl, hG10⟩
        rw [J5.out, J6.out]
        have hP10 := hPt.later hG10
        clear hP9 hPt p0 p1 p2 pf0 pf1 pf2 t0 t1 t2 tf0 tf1 tf2
        obtain ⟨⟨p0, p1, p2⟩, pf0, pf1, pf2⟩ := id hP10
        go_wp2_with fail
        refine (rExists_any s a (o + 1) _).mono ?_
        rintro e w11 ⟨rfl, hG11⟩
        rw [J4.out]
        have gfin := (gT.trans hG10).trans hG11
        rcases hr with ⟨rfl, rfl, rfl⟩ | ⟨rfl, rfl, rfl⟩
        all_goals
          go_wp2_with fail
          go_ret
          exact ⟨by first | rfl | simp, gfin⟩

set_option maxRecDepth 100000 in
set_option maxHeartbeats 3200000 in
theorem steps_walk (s a o x b y c d : Int) (w : World) (_ : -9223372036854775808 ≤ s) (_ : s ≤ 9223372036854775807) (_ : -9223372036854775808 ≤ a) (_ : a ≤ 9223372036854775807) (_ : -9223372036854775808 ≤ o) (_ : o ≤ 9223372036854775807) (_ : -9223372036854775808 ≤ x) (_ : x ≤ 9223372036854775807) (_ : -9223372036854775808 ≤ b) (_ : b ≤ 9223372036854775807) (_ : -9223372036854775808 ≤ y) (_ : y ≤ 9223372036854775807) (c0 : 0 ≤ c) (c1 : c ≤ 255) (d0 : 0 ≤ d) (d1 : d ≤ 255) (hT : Tab w) :
    Calls Tryd.prog 5 #[.agg #[.int .i64 s, .int .i64 a, .int .i64 o], .agg #[.int .i64 x, .int .i64 b, .int .i64 y], .agg #[.int .u8 c, .int .u8 d]] w fun e w' => e = .returned (.bool true) ∧ G w w' := by
  by_cases h : Ok s a o
  · by_cases h2 : Ok x b y
    · exact steps_ok s a o x b y c d w h h2 c0 c1 d0 d1 hT
    · have HT := Lib.hid hT
      have H1 := Lib.hid (decide_eq_true h)
      have H2 := Lib.hid (decide_eq_false h2)
      have gb := G.refl (((w.alloc (.cells #[.int .i64 s, .int .i64 a, .int .i64 o] 23)).alloc (.cells #[.int .i64 x, .int .i64 b, .int .i64 y] 23)).alloc (.cells #[.int .u8 c, .int .u8 d] 38))
      clear h h2 hT
      go_enter Tryd.func5, Tryd.ntmps5
      go_wp2_with fail
      refine (known_any _ (HT.out.later (by (repeat' (first | (with_reducible exact G.refl _) | (with_reducible assumption) | (with_reducible refine G.drewN ?_ _) | (with_reducible refine G.drew ?_) | (with_reducible refine G.alloc ?_ _) | (with_reducible refine G.setCell ?_ (by first | (with_reducible exact Nat.le_refl _) | (simp; done) | (simp; omega) | omega) _) | (with_reducible refine G.trans ?_ (by assumption))))))).mono ?_
      rintro e w1 ⟨rfl, hG1⟩
      have g1 := gb.trans hG1
      obtain ⟨P, Q, v0, v1⟩ := box3_later g1
      obtain ⟨⟨p0, p1, p2⟩, pf0, pf1, pf2⟩ := id P
      go_wp2_with fail
      refine (rExists_any s a o _).mono ?_
      rintro e w2 ⟨rfl, hG2⟩
      rw [H1.out]
      have g2 := g1.trans hG2
      clear P Q v0 v1 p0 p1 p2 pf0 pf1 pf2
      obtain ⟨P, Q, v0, v1⟩ := box3_later g2
      obtain ⟨⟨r0, r1, r2⟩, rf0, rf1, rf2⟩ := id Q
      go_wp2_with fail
      refine (rExists_any x b y _).mono ?_
      rintro e w3 ⟨rfl, hG3⟩
      rw [H2.out]
      go_wp2_with fail
      refine (known_any _ (HT.out.later (by (repeat' (first | (with_reducible exact G.refl _) | (with_reducible assumption) | (with_reducible refine G.drewN ?_ _) | (with_reducible refine G.drew ?_) | (with_reducible refine G.alloc ?_ _) | (with_reducible refine G.setCell ?_ (by first | (with_reducible exact Nat.le_refl _) | (simp; done) | (simp; omega) | omega) _) | (with_reducible refine G.trans ?_ (by assumption))))))).mono ?_
      rintro e w4 ⟨rfl, hG4⟩
      go_wp2_with fail
      go_ret
      exact ⟨by first | rfl | simp, by (repeat' (first | (with_reducible exact G.refl _) | (with_reducible assumption) | (with_reducible refine G.drewN ?_ _) | (with_reducible refine G.drew ?_) | (with_reducible refine G.alloc ?_ _) | (with_reducible refine G.setCell ?_ (by first | (with_reducible exact Nat.le_refl _) | (simp; done) | (simp; omega) | omega) _) | (with_reducible refine G.trans ?_ (by assumption))))⟩
  · have HT := Lib.hid hT
    have H1 := Lib.hid (decide_eq_false h)
    have gb := G.refl (((w.alloc (.cells #[.int .i64 s, .int .i64 a, .int .i64 o] 23)).alloc (.cells #[.int .i64 x, .int .i64 b, .int .i64 y] 23)).alloc (.cells #[.int .u8 c, .int .u8 d] 38))
    clear h hT
    go_enter Tryd.func5, Tryd.ntmps5
    go_wp2_with fail
    refine (known_any _ (HT.out.later (by (repeat' (first | (with_reducible exact G.refl _) | (with_reducible assumption) | (with_reducible refine G.drewN ?_ _) | (with_reducible refine G.drew ?_) | (with_reducible refine G.alloc ?_ _) | (with_reducible refine G.setCell ?_ (by first | (with_reducible exact Nat.le_refl _) | (simp; done) | (simp; omega) | omega) _) | (with_reducible refine G.trans ?_ (by assumption))))))).mono ?_
    rintro e w1 ⟨rfl, hG1⟩
    have g1 := gb.trans hG1
    obtain ⟨P, Q, v0, v1⟩ := box3_later g1
    obtain ⟨⟨p0, p1, p2⟩, pf0, pf1, pf2⟩ := id P
    go_wp2_with fail
    refine (rExists_any s a o _).mono ?_
    rintro e w2 ⟨rfl, hG2⟩
    rw [H1.out]
    go_wp2_with fail
    refine (known_any _ (HT.out.later (by (repeat' (first | (with_reducible exact G.refl _) | (with_reducible assumption) | (with_reducible refine G.drewN ?_ _) | (with_reducible refine G.drew ?_) | (with_reducible refine G.alloc ?_ _) | (with_reducible refine G.setCell ?_ (by first | (with_reducible exact Nat.le_refl _) | (simp; done) | (simp; omega) | omega) _) | (with_reducible refine G.trans ?_ (by assumption))))))).mono ?_
    rintro e w4 ⟨rfl, hG4⟩
    go_wp2_with fail
    go_ret
    exact ⟨by first | rfl | simp, by (repeat' (first | (with_reducible exact G.refl _) | (with_reducible assumption) | (with_reducible refine G.drewN ?_ _) | (with_reducible refine G.drew ?_) | (with_reducible refine G.alloc ?_ _) | (with_reducible refine G.setCell ?_ (by first | (with_reducible exact Nat.le_refl _) | (simp; done) | (simp; omega) | omega) _) | (with_reducible refine G.trans ?_ (by assumption))))⟩

/-! ### the row and the card -/
open Go.ChangeShapes Go.WideShapes Go.ChangeAt Go.RowKit
set_option maxRecDepth 100000 in
theorem clefSteps_lifted (os : Os) (started : os.Started) (H : Type) (enc : TypeId × Value → H) :
    ReturnsInHanded {} Tryd.checked os 5 .any (fun w args => (Rows.clefStepsSpec.pre enc Tryd.prog Tryd.f5 [] false w args ∧ laidMetH Tryd.prog laidL w) ∧ sizedMet enc Tryd.prog Tryd.f5 (OpenSpec.ofChange Rows.clefStepsSpec) false w args)
      (Rows.clefStepsSpec.post enc Tryd.prog Tryd.f5 false true false false) := by
  refine returnsInHanded_of_change_and (C := Tryd.checked) (X := fun w _ => laidMetH Tryd.prog laidL w) (fun _ _ _ hh h => h.of_heap hh) own started (by kernel_rfl) Tryd.func5
    (ChangeSpec.witness_shaped (enc := enc) (C := Tryd.checked) (os := os) (X := fun w _ => laidMetH Tryd.prog laidL w) false (World.laidAll Tryd.prog os laidL) #[.agg #[.int .i64 0, .int .i64 0, .int .i64 0], .agg #[.int .i64 0, .int .i64 0, .int .i64 0], .agg #[.int .u8 0, .int .u8 0]] 8 (World.laidAll_os _ _ _) (shapedL os) (by kernel_rfl) (by kernel_rfl) (by kernel_rfl) (laid_met os _)) ?_
  intro W base args ds gs before hval0 hW _ _ hL _
  have hval : ∀ (j : Nat) t v, Tryd.f5.params[j]? = some t → args[j]? = some v → Value.okWide Tryd.prog W .any base t v := hval0
  have hW' := hW
  obtain ⟨p, q, hA0, hV, rfl, hfz, hnd⟩ := hW
  have hA : DataW.TrodAll enc Tryd.prog W 0 (fun _ => true) true Tryd.f5.params.toList args.toList ds p := hA0
  rw [Tryd.params5] at hA hval
  obtain ⟨v0, vs0, d0, ds0, p0, q0, hargs, rfl, rfl, h0, r0⟩ := trodAll_cons hA
  obtain ⟨v1, vs1, d1, ds1, p1, q1, rfl, rfl, rfl, h1, r1⟩ := trodAll_cons r0
  obtain ⟨v2, vs2, d2, ds2, p2, q2, rfl, rfl, rfl, h2, r2⟩ := trodAll_cons r1
  obtain ⟨rfl, rfl, rfl⟩ := trodAll_nil r2
  obtain rfl : args = #[v0, v1, v2] := by cases args; simp_all
  obtain ⟨rfl, rfl⟩ := trodVars_none hV
  obtain ⟨a0, b0, c0, rfl, rfl, rfl, w0, u0, y0⟩ := open_pitch (hval 0 23 v0 rfl rfl) h0
  obtain ⟨al0, ah0⟩ := bounds_i64 w0
  obtain ⟨bl0, bh0⟩ := bounds_i64 u0
  obtain ⟨cl0, ch0⟩ := bounds_i64 y0
  obtain ⟨a1, b1, c1, rfl, rfl, rfl, w1, u1, y1⟩ := open_pitch (hval 1 23 v1 rfl rfl) h1
  obtain ⟨al1, ah1⟩ := bounds_i64 w1
  obtain ⟨bl1, bh1⟩ := bounds_i64 u1
  obtain ⟨cl1, ch1⟩ := bounds_i64 y1
  obtain ⟨a2, b2, rfl, rfl, rfl, w2, u2⟩ := open_u82 (hval 2 38 v2 rfl rfl) h2
  obtain ⟨bl2, bh2⟩ := bounds_u8 w2
  obtain ⟨cl2, ch2⟩ := bounds_u8 u2
  clear hA0 hval0
  simp only [List.append_nil] at hW'
  refine (steps_walk a0 b0 c0 a1 b1 c1 a2 b2 W al0 ah0 bl0 bh0 cl0 ch0 al1 ah1 bl1 bh1 cl1 ch1 bl2 bh2 cl2 ch2  (tab_of_laid hL)).mono fun e W' ⟨he, hg⟩ => ?_
  subst he
  exact ⟨_, rfl, _, _, _, [], [], [], hW', (trodAll_cons_mk (shut_bool Tryd.underlying4 _) trodAll_mk0), (trodAll_cons_mk (shut_pitch w0 u0 y0) (trodAll_cons_mk (shut_pitch w1 u1 y1) (trodAll_cons_mk (shut_u82 w2 u2) trodAll_mk0))), rfl, Below.frame hg _, fun h => by cases h⟩

theorem clefSteps_holds : Rows.ClefStepsSaid :=
  OpenClaim.holds_of_wide 5 Tryd.f5 rfl rfl rfl rfl rfl rfl rfl ⟨rfl, rfl, rfl, rfl, rfl⟩ rfl rfl rfl rfl rfl (by kernel_rfl) Tryd.func5 (by kernel_rfl)
    (of_decide_eq_true (by kernel_rfl)) (by unfold Func.isWrapper; first | (rw [if_pos (by decide +kernel)]; kernel_rfl) | (rw [if_neg (by decide +kernel)]; exact ⟨rfl, rfl⟩))
    (fun os started H enc _ => clefSteps_lifted os started H enc)

theorem clefSteps_card : Rows.ClefStepsCardSaid :=
  Claim7.holds_tied_plain_at .later [] [.data, .data, .data] true (true, "ae3d3630bcff25fd33e59354a4ec782dc285709024c716b55dd2ba349c01efa0") false
    clefSteps_holds (fun _ h => by cases h) (by kernel_rfl) (fun _ h => by cases h) clefSteps_row_tie rfl ⟨rfl, rfl⟩ (by kernel_rfl) rfl
    (fun f fn hf hfn => by
      obtain rfl : f = 5 := Option.some.inj ((show Tryd.prog.funcNamed "hemiola/hemiolalaw08.ClefSteps" = some 5 by kernel_rfl).symm.trans hf) |>.symm
      obtain rfl : fn = Tryd.f5 := (Option.some.inj (Tryd.func5.symm.trans hfn)).symm
      exact ⟨by kernel_rfl, fun j t ht => by
        rw [Tryd.params5] at ht
        have hm : t ∈ [23, 23, 38] := by simpa using Array.mem_of_getElem? ht
        have hall : ([23, 23, 38].all fun u => !Tryd.prog.wantsStandIn u) = true := by kernel_rfl
        exact (show Tryd.prog.wantsStandIn t = false by simpa using List.all_eq_true.1 hall t hm)⟩)
    (by kernel_rfl)
#print axioms clefSteps_card
end Go.Proofs.YtnakfeamimeioaaDoor
