import Derived.Test.YtkooggakngheoaaDoorIv3
/-! Intervals: Between. -/
namespace Go.Proofs.YtkooggakngheoaaDoor
open Go.RowKit
attribute [local go_sem] World.cell?_alloc_some

/-- two blocks of three cells and one of two, with the marks of the last -/
theorem ttd_later {w w1 : World} {a b c d e f x y : Value} {t t' t'' : TypeId} (h : G (((w.alloc (.cells #[a, b, c] t)).alloc (.cells #[d, e, f] t')).alloc (.cells #[x, y] t'')) w1) :
    (w1.cell? ⟨w.heap.size, 0, none⟩ = some a ∧ w1.cell? ⟨w.heap.size, 1, none⟩ = some b ∧ w1.cell? ⟨w.heap.size, 2, none⟩ = some c) ∧
    (w1.cell? ⟨w.heap.size + 1, 0, none⟩ = some d ∧ w1.cell? ⟨w.heap.size + 1, 1, none⟩ = some e ∧ w1.cell? ⟨w.heap.size + 1, 2, none⟩ = some f) ∧
    (w1.cell? ⟨w.heap.size + 1 + 1, 0, none⟩ = some x ∧ w1.cell? ⟨w.heap.size + 1 + 1, 1, none⟩ = some y) ∧ w1.frozen? ⟨w.heap.size + 1 + 1, 0, none⟩ = false ∧ w1.frozen? ⟨w.heap.size + 1 + 1, 1, none⟩ = false := by
  refine ⟨⟨?_, ?_, ?_⟩, ⟨?_, ?_, ?_⟩, ⟨?_, ?_⟩, ?_, ?_⟩
  · rw [h.cell (by simp <;> omega)]; go_cell
  · rw [h.cell (by simp <;> omega)]; go_cell
  · rw [h.cell (by simp <;> omega)]; go_cell
  · rw [h.cell (by simp)]; go_cell
  · rw [h.cell (by simp)]; go_cell
  · rw [h.cell (by simp)]; go_cell
  · rw [h.cell (by simp)]; go_cell
  · rw [h.cell (by simp)]; go_cell
  · rw [h.frozen (by simp)]; simp [go_sem]
  · rw [h.frozen (by simp)]; simp [go_sem]

set_option maxRecDepth 20000 in
set_option maxHeartbeats 1600000 in
theorem iBetween_ok (s a o x b c : Int) (w : World) (h : Ok s a o) (h2 : Ok x b c) (hT : Hts w) :
    Calls Tryd.prog 20 #[.agg #[.int .i64 s, .int .i64 a, .int .i64 o], .agg #[.int .i64 x, .int .i64 b, .int .i64 c]] w fun e w' => e = .returned (.tuple #[.agg #[.int .i64 (7 * c + x - (7 * o + s)), .int .i64 (ht x b c - ht s a o)], .int .i64 0]) ∧ G w w' := by
  have HT := Lib.hid hT
  have HO := Lib.hid h
  have HP := Lib.hid h2
  have e1 := dia2_bd s a o
  have e2 := dia2_bd x b c
  rw [show dia2 s a o = 7 * o + s from if_pos HO.out] at e1
  rw [show dia2 x b c = 7 * c + x from if_pos HP.out] at e2
  obtain ⟨p, hp⟩ : ∃ z : Int, Hid (z = 7 * o + s) := ⟨_, rfl⟩
  obtain ⟨q, hq⟩ : ∃ z : Int, Hid (z = 7 * c + x) := ⟨_, rfl⟩
  obtain ⟨n, hn⟩ : ∃ z : Int, Hid (z = ht s a o) := ⟨_, rfl⟩
  obtain ⟨m, hm⟩ : ∃ z : Int, Hid (z = ht x b c) := ⟨_, rfl⟩
  have n1 : 0 ≤ n ∧ n ≤ 127 := by rw [hn.out]; exact h.2
  have n2 : 0 ≤ m ∧ m ≤ 127 := by rw [hm.out]; exact h2.2
  rw [← hp.out] at e1
  rw [← hq.out] at e2
  rw [← hp.out, ← hq.out, ← hn.out, ← hm.out]
  have c1 := IntWalk.i64_in (-p) (by omega)
  have c2 := IntWalk.i64_in (-n) (by omega)
  have hs : Sm q m (-p) (-n) := ⟨⟨⟨by omega, by omega⟩, ⟨by omega, by omega⟩⟩, ⟨by omega, by omega⟩⟩
  have HS := Lib.hid (show sy q m (-p) (-n) (q + -p) = q - p ∧ sy q m (-p) (-n) (m + -n) = m - n ∧ se q m (-p) (-n) = 0 from ⟨(if_pos hs).trans (by omega), (if_pos hs).trans (by omega), if_pos hs⟩)
  clear hT h h2 hs
  go_enter Tryd.func20, Tryd.ntmps20
  go_wp2_with fail
  refine (iPlace_any s a o _ (HT.out.later (by (repeat' (first | (with_reducible exact G.refl _) | (with_reducible assumption) | (with_reducible refine G.drewN ?_ _) | (with_reducible refine G.drew ?_) | (with_reducible refine G.alloc ?_ _) | (with_reducible refine G.setCell ?_ (by first | (with_reducible exact Nat.le_refl _) | (simp; done) | (simp; omega) | omega) _) | (with_reducible refine G.trans ?_ (by assumption))))))).mono ?_
  rintro e w1 ⟨rfl, hG⟩
  rw [er_ok HO.out, ey_ok HO.out, show dia2 s a o = p from (if_pos HO.out).trans hp.out.symm, ← hn.out]
  obtain ⟨⟨y0, y1, y2⟩, ⟨y3, y4, y5⟩, ⟨y6, y7⟩, f0, f1⟩ := ttd_later hG
  go_wp2_with fail
  refine (iPlace_any x b c _ (HT.out.later (by (repeat' (first | (with_reducible exact G.refl _) | (with_reducible assumption) | (with_reducible refine G.drewN ?_ _) | (with_reducible refine G.drew ?_) | (with_reducible refine G.alloc ?_ _) | (with_reducible refine G.setCell ?_ (by first | (with_reducible exact Nat.le_refl _) | (simp; done) | (simp; omega) | omega) _) | (with_reducible refine G.trans ?_ (by assumption))))))).mono ?_
  rintro e w2 ⟨rfl, hG2⟩
  rw [er_ok HP.out, ey_ok HP.out, show dia2 x b c = q from (if_pos HP.out).trans hq.out.symm, ← hm.out]
  obtain ⟨z0, z1⟩ := duo_later hG2
  have gb := hG.trans (G.trans (by (repeat' (first | (with_reducible exact G.refl _) | (with_reducible refine G.drewN ?_ _) | (with_reducible refine G.drew ?_) | (with_reducible refine G.alloc ?_ _)))) hG2)
  clear y0 y1 y2 y3 y4 y5 y6 y7 f0 f1
  obtain ⟨⟨y0, y1, y2⟩, ⟨y3, y4, y5⟩, ⟨y6, y7⟩, f0, f1⟩ := ttd_later gb
  go_wp2_with fail
  refine (OrE_any 0 0 _ _ (by go_cell) (by go_cell)).mono ?_
  rintro e w3 ⟨rfl, rfl⟩
  rw [or0]
  go_wp2_with fail
  refine (iSub_any q m p n (-p) (-n) _ c1 c2).mono ?_
  rintro e w4 ⟨rfl, hG4⟩
  rw [HS.out.1, HS.out.2.1, HS.out.2.2]
  have gc := gb.trans (G.trans (by (repeat' (first | (with_reducible exact G.refl _) | (with_reducible refine G.drewN ?_ _) | (with_reducible refine G.drew ?_) | (with_reducible refine G.alloc ?_ _)))) hG4)
  clear y0 y1 y2 y3 y4 y5 y6 y7 f0 f1 c1 c2
  obtain ⟨⟨y0, y1, y2⟩, ⟨y3, y4, y5⟩, ⟨y6, y7⟩, f0, f1⟩ := ttd_later gc
  go_wp2_with fail
  refine bodyPost_ret (v := .tuple #[.agg #[.int .i64 (q - p), .int .i64 (m - n)], .int .i64 0]) (by simp [results, Tryd.results20, go_sem, y6, y7]) rfl ⟨rfl, ?_⟩
  (repeat' (first | (with_reducible exact G.refl _) | (with_reducible assumption) | (with_reducible refine G.drewN ?_ _) | (with_reducible refine G.drew ?_) | (with_reducible refine G.alloc ?_ _) | (with_reducible refine G.setCell ?_ (by first | (with_reducible exact Nat.le_refl _) | (simp; done) | (simp; omega) | omega) _) | (with_reducible refine G.trans ?_ (by assumption))))

theorem or18 (y : Int) : (if (18 : Int) ≠ 0 then (18 : Int) else y) = 18 := if_pos (by decide)
set_option maxRecDepth 20000 in
set_option maxHeartbeats 1600000 in
theorem iBetween_bad (s a o x b c : Int) (w : World) (h : ¬ (Ok s a o ∧ Ok x b c)) (hT : Hts w) :
    Calls Tryd.prog 20 #[.agg #[.int .i64 s, .int .i64 a, .int .i64 o], .agg #[.int .i64 x, .int .i64 b, .int .i64 c]] w fun e w' => e = .returned (.tuple #[.agg #[.int .i64 0, .int .i64 0], .int .i64 18]) ∧ G w w' := by
  have HT := Lib.hid hT
  obtain ⟨p, hp⟩ : ∃ z : Int, Hid (z = dia2 s a o) := ⟨_, rfl⟩
  obtain ⟨q, hq⟩ : ∃ z : Int, Hid (z = dia2 x b c) := ⟨_, rfl⟩
  obtain ⟨n, hn⟩ : ∃ z : Int, Hid (z = ey s a o (ht s a o)) := ⟨_, rfl⟩
  obtain ⟨m, hm⟩ : ∃ z : Int, Hid (z = ey x b c (ht x b c)) := ⟨_, rfl⟩
  obtain ⟨i, hi⟩ : ∃ z : Int, Hid (z = er s a o) := ⟨_, rfl⟩
  obtain ⟨j, hj⟩ : ∃ z : Int, Hid (z = er x b c) := ⟨_, rfl⟩
  have hij : (if i ≠ 0 then i else j) = 18 := by
    rw [hi.out, hj.out]
    by_cases h1 : Ok s a o
    · have h2 : ¬ Ok x b c := fun k => h ⟨h1, k⟩
      rw [er_ok h1, er_bad h2]; exact or0 18
    · rw [er_bad h1]; exact or18 _
  have HI := Lib.hid hij
  clear hT h hij
  go_enter Tryd.func20, Tryd.ntmps20
  go_wp2_with fail
  refine (iPlace_any s a o _ (HT.out.later (by (repeat' (first | (with_reducible exact G.refl _) | (with_reducible assumption) | (with_reducible refine G.drewN ?_ _) | (with_reducible refine G.drew ?_) | (with_reducible refine G.alloc ?_ _) | (with_reducible refine G.setCell ?_ (by first | (with_reducible exact Nat.le_refl _) | (simp; done) | (simp; omega) | omega) _) | (with_reducible refine G.trans ?_ (by assumption))))))).mono ?_
  rintro e w1 ⟨rfl, hG⟩
  rw [← hp.out, ← hn.out, ← hi.out]
  obtain ⟨⟨y0, y1, y2⟩, ⟨y3, y4, y5⟩, ⟨y6, y7⟩, f0, f1⟩ := ttd_later hG
  go_wp2_with fail
  refine (iPlace_any x b c _ (HT.out.later (by (repeat' (first | (with_reducible exact G.refl _) | (with_reducible assumption) | (with_reducible refine G.drewN ?_ _) | (with_reducible refine G.drew ?_) | (with_reducible refine G.alloc ?_ _) | (with_reducible refine G.setCell ?_ (by first | (with_reducible exact Nat.le_refl _) | (simp; done) | (simp; omega) | omega) _) | (with_reducible refine G.trans ?_ (by assumption))))))).mono ?_
  rintro e w2 ⟨rfl, hG2⟩
  rw [← hq.out, ← hm.out, ← hj.out]
  have gb := hG.trans (G.trans (by (repeat' (first | (with_reducible exact G.refl _) | (with_reducible refine G.drewN ?_ _) | (with_reducible refine G.drew ?_) | (with_reducible refine G.alloc ?_ _)))) hG2)
  have gc := G.alloc (G.alloc gb (.cells #[.int .i64 q, .int .i64 m] 23)) (.cells #[.int .i64 i, .int .i64 j] 24)
  clear y0 y1 y2 y3 y4 y5 y6 y7 f0 f1
  obtain ⟨⟨y0, y1, y2⟩, ⟨y3, y4, y5⟩, ⟨y6, y7⟩, f0, f1⟩ := ttd_later gb
  go_wp2_with fail
  refine (OrE_any i j _ _ (by go_cell) (by go_cell)).mono ?_
  rintro e w3 ⟨rfl, rfl⟩
  rw [HI.out]
  clear y0 y1 y2 y3 y4 y5 y6 y7 f0 f1
  obtain ⟨⟨y0, y1, y2⟩, ⟨y3, y4, y5⟩, ⟨y6, y7⟩, f0, f1⟩ := ttd_later gc
  go_wp2_with fail
  refine bodyPost_ret (v := .tuple #[.agg #[.int .i64 0, .int .i64 0], .int .i64 18]) (by simp [results, Tryd.results20, go_sem, y6, y7]) rfl ⟨rfl, ?_⟩
  (repeat' (first | (with_reducible exact G.refl _) | (with_reducible assumption) | (with_reducible refine G.drewN ?_ _) | (with_reducible refine G.drew ?_) | (with_reducible refine G.alloc ?_ _) | (with_reducible refine G.setCell ?_ (by first | (with_reducible exact Nat.le_refl _) | (simp; done) | (simp; omega) | omega) _) | (with_reducible refine G.trans ?_ (by assumption))))
end Go.Proofs.YtkooggakngheoaaDoor
