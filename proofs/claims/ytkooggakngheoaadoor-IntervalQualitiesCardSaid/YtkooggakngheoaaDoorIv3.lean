import Derived.Test.YtkooggakngheoaaDoorIv2
/-! Intervals: Sub, Negate, Fifths, the staff position and the number of a pitch, Between. -/
namespace Go.Proofs.YtkooggakngheoaaDoor
open Go.RowKit
attribute [local go_sem] World.cell?_alloc_some

def dia2 (s a o : Int) : Int := if Ok s a o then 7 * o + s else 0
theorem dia2_bd (s a o : Int) : -7 ≤ dia2 s a o ∧ dia2 s a o ≤ 69 := by
  unfold dia2
  by_cases h : Ok s a o
  · obtain ⟨⟨⟨_, _⟩, ⟨_, _⟩, _, _⟩, _, _⟩ := id h
    rw [if_pos h]; omega
  · rw [if_neg h]; omega

set_option maxHeartbeats 800000 in
theorem iSub_any (a b c d c' d' : Int) (w : World) (hc : IntKind.i64.wrap (-c) = c') (hd : IntKind.i64.wrap (-d) = d') :
    Calls Tryd.prog 12 #[.agg #[.int .i64 a, .int .i64 b], .agg #[.int .i64 c, .int .i64 d]] w fun e w' => e = .returned (.tuple #[.agg #[.int .i64 (sy a b c' d' (a + c')), .int .i64 (sy a b c' d' (b + d'))], .int .i64 (se a b c' d')]) ∧ G w w' := by
  obtain ⟨R, hR⟩ : ∃ z : Value, Hid (z = .tuple #[.agg #[.int .i64 (sy a b c' d' (a + c')), .int .i64 (sy a b c' d' (b + d'))], .int .i64 (se a b c' d')]) := ⟨_, rfl⟩
  obtain ⟨x, hx⟩ : ∃ z : Int, Hid (z = sy a b c' d' (a + c')) := ⟨_, rfl⟩
  obtain ⟨y, hy⟩ : ∃ z : Int, Hid (z = sy a b c' d' (b + d')) := ⟨_, rfl⟩
  obtain ⟨z, hz⟩ : ∃ z : Int, Hid (z = se a b c' d') := ⟨_, rfl⟩
  rw [← hR.out]
  have HC := Lib.hid (And.intro hc hd)
  clear hc hd
  have gb : G (((w.alloc (.cells #[.int .i64 a, .int .i64 b] 23)).alloc (.cells #[.int .i64 c, .int .i64 d] 23)).alloc (.cells #[.int .i64 0, .int .i64 0] 23)) (((w.alloc (.cells #[.int .i64 a, .int .i64 b] 23)).alloc (.cells #[.int .i64 c, .int .i64 d] 23)).alloc (.cells #[.int .i64 0, .int .i64 0] 23)) := G.refl _
  have gw : G w (((w.alloc (.cells #[.int .i64 a, .int .i64 b] 23)).alloc (.cells #[.int .i64 c, .int .i64 d] 23)).alloc (.cells #[.int .i64 0, .int .i64 0] 23)) := by (repeat' (first | (with_reducible exact G.refl _) | (with_reducible refine G.drewN ?_ _) | (with_reducible refine G.drew ?_) | (with_reducible refine G.alloc ?_ _)))
  go_enter Tryd.func12, Tryd.ntmps12
  go_wp2_with fail
  go_region_held3 (fun w' => w'.cell? ⟨w.heap.size, 0, none⟩ = some (.int .i64 a) ∧ w'.cell? ⟨w.heap.size, 1, none⟩ = some (.int .i64 b) ∧ w'.cell? ⟨w.heap.size + 1, 0, none⟩ = some (.int .i64 c) ∧ w'.cell? ⟨w.heap.size + 1, 1, none⟩ = some (.int .i64 d))
    (first | (with_reducible assumption) | ((try dsimp only); (repeat' (with_reducible apply And.intro)) <;> go_simp))
    (first | (go_at_call 37; refine (opposite_any c d c' d' _ HC.out.1 HC.out.2).mono ?_; rintro e w1 ⟨rfl, hG⟩; have gq := gb.trans (G.trans (by (repeat' (first | (with_reducible exact G.refl _) | (with_reducible refine G.drewN ?_ _) | (with_reducible refine G.drew ?_) | (with_reducible refine G.alloc ?_ _)))) hG); clear gb; have gb := gq; obtain ⟨⟨y0, y1⟩, ⟨y2, y3⟩, ⟨y4, y5⟩, f0, f1⟩ := duo3_later gb) | (go_at_call 11; refine (iAdd_any _ _ _ _ _).mono ?_; rintro e w1 ⟨rfl, hG⟩; rw [← hx.out, ← hy.out, ← hz.out]; have gq := gb.trans (G.trans (by (repeat' (first | (with_reducible exact G.refl _) | (with_reducible refine G.drewN ?_ _) | (with_reducible refine G.drew ?_) | (with_reducible refine G.alloc ?_ _)))) hG); clear gb; have gb := gq; obtain ⟨⟨y0, y1⟩, ⟨y2, y3⟩, ⟨y4, y5⟩, f0, f1⟩ := duo3_later gb))
  all_goals
    go_wp2_with fail
    refine bodyPost_ret (v := R) (by rw [hR.out, ← hx.out, ← hy.out, ← hz.out]; simp [results, Tryd.results12, go_sem, y4, y5]) rfl ⟨rfl, ?_⟩
    (repeat' (first | (with_reducible exact G.refl _) | (with_reducible assumption) | (with_reducible refine G.drewN ?_ _) | (with_reducible refine G.drew ?_) | (with_reducible refine G.alloc ?_ _) | (with_reducible refine G.setCell ?_ (by first | (with_reducible exact Nat.le_refl _) | (simp; done) | (simp; omega) | omega) _) | (with_reducible refine G.trans ?_ (by assumption))))

set_option maxHeartbeats 800000 in
theorem iNegate_any (c d c' d' : Int) (w : World) (hc : IntKind.i64.wrap (-c) = c') (hd : IntKind.i64.wrap (-d) = d') :
    Calls Tryd.prog 13 #[.agg #[.int .i64 c, .int .i64 d]] w fun e w' => e = .returned (.tuple #[.agg #[.int .i64 (iy c' d' c'), .int .i64 (iy c' d' d')], .int .i64 (ie c' d')]) ∧ G w w' := by
  obtain ⟨R, hR⟩ : ∃ z : Value, Hid (z = .tuple #[.agg #[.int .i64 (iy c' d' c'), .int .i64 (iy c' d' d')], .int .i64 (ie c' d')]) := ⟨_, rfl⟩
  obtain ⟨x, hx⟩ : ∃ z : Int, Hid (z = iy c' d' c') := ⟨_, rfl⟩
  obtain ⟨y, hy⟩ : ∃ z : Int, Hid (z = iy c' d' d') := ⟨_, rfl⟩
  obtain ⟨z, hz⟩ : ∃ z : Int, Hid (z = ie c' d') := ⟨_, rfl⟩
  rw [← hR.out]
  have gb : G ((w.alloc (.cells #[.int .i64 c, .int .i64 d] 23)).alloc (.cells #[.int .i64 0, .int .i64 0] 23)) ((w.alloc (.cells #[.int .i64 c, .int .i64 d] 23)).alloc (.cells #[.int .i64 0, .int .i64 0] 23)) := G.refl _
  have gw : G w ((w.alloc (.cells #[.int .i64 c, .int .i64 d] 23)).alloc (.cells #[.int .i64 0, .int .i64 0] 23)) := by (repeat' (first | (with_reducible exact G.refl _) | (with_reducible refine G.drewN ?_ _) | (with_reducible refine G.drew ?_) | (with_reducible refine G.alloc ?_ _)))
  go_enter Tryd.func13, Tryd.ntmps13
  go_wp2_with fail
  refine (opposite_any c d c' d' _ hc hd).mono ?_
  rintro e w1 ⟨rfl, hG1⟩
  clear hc hd
  go_wp2_with fail
  refine (iValid_any c' d' _).mono ?_
  rintro e w2 ⟨rfl, hG2⟩
  rw [← hx.out, ← hy.out, ← hz.out]
  have gc := (gb.trans (G.trans (by (repeat' (first | (with_reducible exact G.refl _) | (with_reducible refine G.drewN ?_ _) | (with_reducible refine G.drew ?_) | (with_reducible refine G.alloc ?_ _)))) hG1)).trans (G.trans (by (repeat' (first | (with_reducible exact G.refl _) | (with_reducible refine G.drewN ?_ _) | (with_reducible refine G.drew ?_) | (with_reducible refine G.alloc ?_ _)))) hG2)
  obtain ⟨⟨y0, y1⟩, ⟨y4, y5⟩, f0, f1⟩ := duo2_later gc
  go_wp2_with fail
  refine bodyPost_ret (v := R) (by rw [hR.out, ← hx.out, ← hy.out, ← hz.out]; simp [results, Tryd.results13, go_sem, y4, y5]) rfl ⟨rfl, ?_⟩
  (repeat' (first | (with_reducible exact G.refl _) | (with_reducible assumption) | (with_reducible refine G.drewN ?_ _) | (with_reducible refine G.drew ?_) | (with_reducible refine G.alloc ?_ _) | (with_reducible refine G.setCell ?_ (by first | (with_reducible exact Nat.le_refl _) | (simp; done) | (simp; omega) | omega) _) | (with_reducible refine G.trans ?_ (by assumption))))

set_option maxHeartbeats 800000 in
theorem iFifths_any (s t : Int) (w : World) :
    Calls Tryd.prog 19 #[.agg #[.int .i64 s, .int .i64 t]] w fun e w' => e = .returned (.tuple #[.int .i64 (iy s t (7 * t - 12 * s)), .int .i64 (ie s t)]) ∧ G w w' := by
  by_cases h : Iv s t
  · rw [ie_ok h, iy_ok h]
    have HV := Lib.hid h
    obtain ⟨⟨s0, s1⟩, t0, t1⟩ := h
    go_enter Tryd.func19, Tryd.ntmps19
    go_wp2_with fail
    refine (iCheck_any s t _).mono ?_
    rintro e w1 ⟨rfl, hG⟩
    rw [ie_ok HV.out]
    obtain ⟨y0, y1⟩ := duo_later hG
    go_wp2_with fail
    (try go_quiet (fail))
    go_wp2_with fail
    go_returns
    exact ⟨rfl, by (repeat' (first | (with_reducible exact G.refl _) | (with_reducible assumption) | (with_reducible refine G.drewN ?_ _) | (with_reducible refine G.drew ?_) | (with_reducible refine G.alloc ?_ _) | (with_reducible refine G.setCell ?_ (by first | (with_reducible exact Nat.le_refl _) | (simp; done) | (simp; omega) | omega) _) | (with_reducible refine G.trans ?_ (by assumption))))⟩
  · rw [ie_bad h, iy_bad h]
    have HV := Lib.hid h
    clear h
    go_enter Tryd.func19, Tryd.ntmps19
    go_wp2_with fail
    refine (iCheck_any s t _).mono ?_
    rintro e w1 ⟨rfl, hG⟩
    rw [ie_bad HV.out]
    go_wp2_with fail
    go_returns
    exact ⟨rfl, by (repeat' (first | (with_reducible exact G.refl _) | (with_reducible assumption) | (with_reducible refine G.drewN ?_ _) | (with_reducible refine G.drew ?_) | (with_reducible refine G.alloc ?_ _) | (with_reducible refine G.setCell ?_ (by first | (with_reducible exact Nat.le_refl _) | (simp; done) | (simp; omega) | omega) _) | (with_reducible refine G.trans ?_ (by assumption))))⟩

/-- a block of three cells and one of two, with the marks of the second -/
theorem td_later {w w1 : World} {a b c x y : Value} {t t' : TypeId} (h : G ((w.alloc (.cells #[a, b, c] t)).alloc (.cells #[x, y] t')) w1) :
    (w1.cell? ⟨w.heap.size, 0, none⟩ = some a ∧ w1.cell? ⟨w.heap.size, 1, none⟩ = some b ∧ w1.cell? ⟨w.heap.size, 2, none⟩ = some c) ∧
    (w1.cell? ⟨w.heap.size + 1, 0, none⟩ = some x ∧ w1.cell? ⟨w.heap.size + 1, 1, none⟩ = some y) ∧ w1.frozen? ⟨w.heap.size + 1, 0, none⟩ = false ∧ w1.frozen? ⟨w.heap.size + 1, 1, none⟩ = false := by
  refine ⟨⟨?_, ?_, ?_⟩, ⟨?_, ?_⟩, ?_, ?_⟩
  · rw [h.cell (by simp; omega)]; go_cell
  · rw [h.cell (by simp; omega)]; go_cell
  · rw [h.cell (by simp; omega)]; go_cell
  · rw [h.cell (by simp)]; go_cell
  · rw [h.cell (by simp)]; go_cell
  · rw [h.frozen (by simp)]; simp [go_sem]
  · rw [h.frozen (by simp)]; simp [go_sem]

set_option maxHeartbeats 800000 in
/-- the staff position and the number of a pitch -/
theorem iPlace_any (s a o : Int) (w : World) (hT : Hts w) :
    Calls Tryd.prog 39 #[.agg #[.int .i64 s, .int .i64 a, .int .i64 o]] w fun e w' => e = .returned (.tuple #[.agg #[.int .i64 (dia2 s a o), .int .i64 (ey s a o (ht s a o))], .int .i64 (er s a o)]) ∧ G w w' := by
  have HT := Lib.hid hT
  clear hT
  by_cases h : Ok s a o
  · have HO := Lib.hid h
    rw [show dia2 s a o = 7 * o + s from if_pos h, ey_ok h, er_ok h]
    clear h
    go_enter Tryd.func39, Tryd.ntmps39
    go_wp2_with fail
    refine (Number_any s a o _ (HT.out.later (by (repeat' (first | (with_reducible exact G.refl _) | (with_reducible assumption) | (with_reducible refine G.drewN ?_ _) | (with_reducible refine G.drew ?_) | (with_reducible refine G.alloc ?_ _) | (with_reducible refine G.setCell ?_ (by first | (with_reducible exact Nat.le_refl _) | (simp; done) | (simp; omega) | omega) _) | (with_reducible refine G.trans ?_ (by assumption))))))).mono ?_
    rintro e w1 ⟨rfl, hG⟩
    rw [er_ok HO.out, if_pos HO.out]
    obtain ⟨⟨y0, y1, y2⟩, ⟨z0, z1⟩, f0, f1⟩ := td_later hG
    go_wp2_with fail
    refine (Diatonic_any s a o _ (HT.out.later (by (repeat' (first | (with_reducible exact G.refl _) | (with_reducible assumption) | (with_reducible refine G.drewN ?_ _) | (with_reducible refine G.drew ?_) | (with_reducible refine G.alloc ?_ _) | (with_reducible refine G.setCell ?_ (by first | (with_reducible exact Nat.le_refl _) | (simp; done) | (simp; omega) | omega) _) | (with_reducible refine G.trans ?_ (by assumption))))))).mono ?_
    rintro e w2 ⟨rfl, hG2⟩
    rw [er_ok HO.out, if_pos HO.out]
    clear y0 y1 y2 z0 z1 f0 f1
    have gc := hG.trans (G.trans (by (repeat' (first | (with_reducible exact G.refl _) | (with_reducible refine G.drewN ?_ _) | (with_reducible refine G.drew ?_) | (with_reducible refine G.alloc ?_ _)))) hG2)
    obtain ⟨⟨y0, y1, y2⟩, ⟨z0, z1⟩, f0, f1⟩ := td_later gc
    go_wp2_with fail
    refine bodyPost_ret (v := .tuple #[.agg #[.int .i64 (7 * o + s), .int .i64 (ht s a o)], .int .i64 0]) (by simp [results, Tryd.results39, go_sem, z0, z1]) rfl ⟨rfl, ?_⟩
    (repeat' (first | (with_reducible exact G.refl _) | (with_reducible assumption) | (with_reducible refine G.drewN ?_ _) | (with_reducible refine G.drew ?_) | (with_reducible refine G.alloc ?_ _) | (with_reducible refine G.setCell ?_ (by first | (with_reducible exact Nat.le_refl _) | (simp; done) | (simp; omega) | omega) _) | (with_reducible refine G.trans ?_ (by assumption))))
  · have HO := Lib.hid h
    rw [show dia2 s a o = 0 from if_neg h, ey_bad h, er_bad h]
    clear h
    go_enter Tryd.func39, Tryd.ntmps39
    go_wp2_with fail
    refine (Number_any s a o _ (HT.out.later (by (repeat' (first | (with_reducible exact G.refl _) | (with_reducible assumption) | (with_reducible refine G.drewN ?_ _) | (with_reducible refine G.drew ?_) | (with_reducible refine G.alloc ?_ _) | (with_reducible refine G.setCell ?_ (by first | (with_reducible exact Nat.le_refl _) | (simp; done) | (simp; omega) | omega) _) | (with_reducible refine G.trans ?_ (by assumption))))))).mono ?_
    rintro e w1 ⟨rfl, hG⟩
    rw [er_bad HO.out, if_neg HO.out]
    obtain ⟨⟨y0, y1, y2⟩, ⟨z0, z1⟩, f0, f1⟩ := td_later hG
    go_wp2_with fail
    refine bodyPost_ret (v := .tuple #[.agg #[.int .i64 0, .int .i64 0], .int .i64 18]) (by simp [results, Tryd.results39, go_sem, z0, z1]) rfl ⟨rfl, ?_⟩
    (repeat' (first | (with_reducible exact G.refl _) | (with_reducible assumption) | (with_reducible refine G.drewN ?_ _) | (with_reducible refine G.drew ?_) | (with_reducible refine G.alloc ?_ _) | (with_reducible refine G.setCell ?_ (by first | (with_reducible exact Nat.le_refl _) | (simp; done) | (simp; omega) | omega) _) | (with_reducible refine G.trans ?_ (by assumption))))

end Go.Proofs.YtkooggakngheoaaDoor
