import Derived.Test.YtkooggakngheoaaDoorIv1
import Derived.Test.YtkooggakngheoaaDoorTri
/-! Intervals: Add, Sub, Negate. -/
namespace Go.Proofs.YtkooggakngheoaaDoor
open Go.RowKit
attribute [local go_sem] World.cell?_alloc_some

def Sm (a b c d : Int) : Prop := (Iv a b ∧ Iv c d) ∧ Iv (a + c) (b + d)
instance (a b c d : Int) : Decidable (Sm a b c d) := by unfold Sm; infer_instance
def sy (a b c d x : Int) : Int := if Sm a b c d then x else 0
def se (a b c d : Int) : Int := if Sm a b c d then 0 else 2
/-- three blocks of two cells, with the marks of the third -/
theorem duo3_later {w w1 : World} {a b c d x y : Value} {t t' t'' : TypeId} (h : G (((w.alloc (.cells #[a, b] t)).alloc (.cells #[c, d] t')).alloc (.cells #[x, y] t'')) w1) :
    (w1.cell? ⟨w.heap.size, 0, none⟩ = some a ∧ w1.cell? ⟨w.heap.size, 1, none⟩ = some b) ∧
    (w1.cell? ⟨w.heap.size + 1, 0, none⟩ = some c ∧ w1.cell? ⟨w.heap.size + 1, 1, none⟩ = some d) ∧
    (w1.cell? ⟨w.heap.size + 1 + 1, 0, none⟩ = some x ∧ w1.cell? ⟨w.heap.size + 1 + 1, 1, none⟩ = some y) ∧
    w1.frozen? ⟨w.heap.size + 1 + 1, 0, none⟩ = false ∧ w1.frozen? ⟨w.heap.size + 1 + 1, 1, none⟩ = false := by
  refine ⟨⟨?_, ?_⟩, ⟨?_, ?_⟩, ⟨?_, ?_⟩, ?_, ?_⟩
  · rw [h.cell (by simp <;> omega)]; go_cell
  · rw [h.cell (by simp <;> omega)]; go_cell
  · rw [h.cell (by simp)]; go_cell
  · rw [h.cell (by simp)]; go_cell
  · rw [h.cell (by simp)]; go_cell
  · rw [h.cell (by simp)]; go_cell
  · rw [h.frozen (by simp)]; simp [go_sem]
  · rw [h.frozen (by simp)]; simp [go_sem]
theorem or0 (y : Int) : (if (0 : Int) ≠ 0 then (0 : Int) else y) = y := if_neg (by simp)
theorem or2 (y : Int) : (if (2 : Int) ≠ 0 then (2 : Int) else y) = 2 := if_pos (by decide)

set_option maxRecDepth 20000 in
set_option maxHeartbeats 3200000 in
theorem iAdd_any (a b c d : Int) (w : World) :
    Calls Tryd.prog 11 #[.agg #[.int .i64 a, .int .i64 b], .agg #[.int .i64 c, .int .i64 d]] w fun e w' => e = .returned (.tuple #[.agg #[.int .i64 (sy a b c d (a + c)), .int .i64 (sy a b c d (b + d))], .int .i64 (se a b c d)]) ∧ G w w' := by
  obtain ⟨R, hR⟩ : ∃ z : Value, Hid (z = .tuple #[.agg #[.int .i64 (sy a b c d (a + c)), .int .i64 (sy a b c d (b + d))], .int .i64 (se a b c d)]) := ⟨_, rfl⟩
  have gb : G (((w.alloc (.cells #[.int .i64 a, .int .i64 b] 23)).alloc (.cells #[.int .i64 c, .int .i64 d] 23)).alloc (.cells #[.int .i64 0, .int .i64 0] 23)) (((w.alloc (.cells #[.int .i64 a, .int .i64 b] 23)).alloc (.cells #[.int .i64 c, .int .i64 d] 23)).alloc (.cells #[.int .i64 0, .int .i64 0] 23)) := G.refl _
  have gw : G w (((w.alloc (.cells #[.int .i64 a, .int .i64 b] 23)).alloc (.cells #[.int .i64 c, .int .i64 d] 23)).alloc (.cells #[.int .i64 0, .int .i64 0] 23)) := by (repeat' (first | (with_reducible exact G.refl _) | (with_reducible refine G.drewN ?_ _) | (with_reducible refine G.drew ?_) | (with_reducible refine G.alloc ?_ _)))
  by_cases h : Iv a b ∧ Iv c d
  · have HV := Lib.hid h
    obtain ⟨⟨⟨a0, a1⟩, b0, b1⟩, ⟨c0, c1⟩, d0, d1⟩ := h
    have q1 := IntWalk.i64_in (a + c) (by omega)
    have q2 := IntWalk.i64_in (b + d) (by omega)
    have HR := Lib.hid (show R = .tuple #[.agg #[.int .i64 (iy (a + c) (b + d) (a + c)), .int .i64 (iy (a + c) (b + d) (b + d))], .int .i64 (ie (a + c) (b + d))] by
      rw [hR.out]; unfold sy se iy ie
      by_cases k : Iv (a + c) (b + d)
      · have k' : Sm a b c d := ⟨HV.out, k⟩
        rw [if_pos k, if_pos k, if_pos k, if_pos k', if_pos k', if_pos k']
      · have k' : ¬ Sm a b c d := fun z => k z.2
        rw [if_neg k, if_neg k, if_neg k, if_neg k', if_neg k', if_neg k'])
    rw [← hR.out]
    obtain ⟨x, hx⟩ : ∃ z : Int, Hid (z = iy (a + c) (b + d) (a + c)) := ⟨_, rfl⟩
    obtain ⟨y, hy⟩ : ∃ z : Int, Hid (z = iy (a + c) (b + d) (b + d)) := ⟨_, rfl⟩
    obtain ⟨z, hz⟩ : ∃ z : Int, Hid (z = ie (a + c) (b + d)) := ⟨_, rfl⟩
    go_enter Tryd.func11, Tryd.ntmps11
    go_wp2_with fail
    go_region_held3 (fun w' => w'.cell? ⟨w.heap.size, 0, none⟩ = some (.int .i64 a) ∧ w'.cell? ⟨w.heap.size, 1, none⟩ = some (.int .i64 b) ∧ w'.cell? ⟨w.heap.size + 1, 0, none⟩ = some (.int .i64 c) ∧ w'.cell? ⟨w.heap.size + 1, 1, none⟩ = some (.int .i64 d))
      (first | (with_reducible assumption) | ((try dsimp only); (repeat' (with_reducible apply And.intro)) <;> go_simp))
      (first | (go_at_call 16; refine (iCheck_any _ _ _).mono ?_; rintro e w1 ⟨rfl, hG⟩; (first | rw [ie_ok HV.out.1] | rw [ie_ok HV.out.2]); have gq := gb.trans (G.trans (by (repeat' (first | (with_reducible exact G.refl _) | (with_reducible refine G.drewN ?_ _) | (with_reducible refine G.drew ?_) | (with_reducible refine G.alloc ?_ _)))) hG); clear gb; have gb := gq; obtain ⟨⟨y0, y1⟩, ⟨y2, y3⟩, ⟨y4, y5⟩, f0, f1⟩ := duo3_later gb) | (go_at_call 35; refine (OrE_any 0 0 _ _ (by go_cell) (by go_cell)).mono ?_; rintro e w1 ⟨rfl, rfl⟩; rw [or0]))
    all_goals
      go_wp2_with fail
      refine (iValid_any (a + c) (b + d) _).mono ?_
      rintro e w8 ⟨rfl, hG8⟩
      rw [← hx.out, ← hy.out, ← hz.out]
      have gc := gb.trans (G.trans (by (repeat' (first | (with_reducible exact G.refl _) | (with_reducible refine G.drewN ?_ _) | (with_reducible refine G.drew ?_) | (with_reducible refine G.alloc ?_ _)))) hG8)
      clear y0 y1 y2 y3 y4 y5 f0 f1
      obtain ⟨⟨y0, y1⟩, ⟨y2, y3⟩, ⟨y4, y5⟩, f0, f1⟩ := duo3_later gc
      go_wp2_with fail
      refine bodyPost_ret (v := R) (by rw [HR.out, ← hx.out, ← hy.out, ← hz.out]; simp [results, Tryd.results11, go_sem, y4, y5]) rfl ⟨rfl, ?_⟩
      (repeat' (first | (with_reducible exact G.refl _) | (with_reducible assumption) | (with_reducible refine G.drewN ?_ _) | (with_reducible refine G.drew ?_) | (with_reducible refine G.alloc ?_ _) | (with_reducible refine G.setCell ?_ (by first | (with_reducible exact Nat.le_refl _) | (simp; done) | (simp; omega) | omega) _) | (with_reducible refine G.trans ?_ (by assumption))))
  · have HR := Lib.hid (show R = .tuple #[.agg #[.int .i64 0, .int .i64 0], .int .i64 2] by
      have k : ¬ Sm a b c d := fun z => h z.1
      rw [hR.out]; unfold sy se
      rw [if_neg k, if_neg k, if_neg k])
    rw [← hR.out]
    by_cases h1 : Iv a b
    · have h2 : ¬ Iv c d := fun k => h ⟨h1, k⟩
      have HV := Lib.hid h1
      have HW := Lib.hid h2
      clear h1 h2
      clear h
      go_enter Tryd.func11, Tryd.ntmps11
      go_wp2_with fail
      go_region_held3 (fun w' => w'.cell? ⟨w.heap.size, 0, none⟩ = some (.int .i64 a) ∧ w'.cell? ⟨w.heap.size, 1, none⟩ = some (.int .i64 b) ∧ w'.cell? ⟨w.heap.size + 1, 0, none⟩ = some (.int .i64 c) ∧ w'.cell? ⟨w.heap.size + 1, 1, none⟩ = some (.int .i64 d))
        (first | (with_reducible assumption) | ((try dsimp only); (repeat' (with_reducible apply And.intro)) <;> go_simp))
        (first | (go_at_call 16; refine (iCheck_any _ _ _).mono ?_; rintro e w1 ⟨rfl, hG⟩; (first | rw [ie_ok HV.out] | rw [ie_bad HW.out]); have gq := gb.trans (G.trans (by (repeat' (first | (with_reducible exact G.refl _) | (with_reducible refine G.drewN ?_ _) | (with_reducible refine G.drew ?_) | (with_reducible refine G.alloc ?_ _)))) hG); clear gb; have gb := gq; obtain ⟨⟨y0, y1⟩, ⟨y2, y3⟩, ⟨y4, y5⟩, f0, f1⟩ := duo3_later gb) | (go_at_call 35; refine (OrE_any 0 2 _ _ (by go_cell) (by go_cell)).mono ?_; rintro e w1 ⟨rfl, rfl⟩; rw [or0]))
      all_goals
        have gc := G.alloc gb (.cells #[.int .i64 0, .int .i64 2] 24)
        clear y0 y1 y2 y3 y4 y5 f0 f1
        obtain ⟨⟨y0, y1⟩, ⟨y2, y3⟩, ⟨y4, y5⟩, f0, f1⟩ := duo3_later gc
        go_wp2_with fail
        refine bodyPost_ret (v := R) (by rw [HR.out]; simp [results, Tryd.results11, go_sem, y4, y5]) rfl ⟨rfl, ?_⟩
        (repeat' (first | (with_reducible exact G.refl _) | (with_reducible assumption) | (with_reducible refine G.drewN ?_ _) | (with_reducible refine G.drew ?_) | (with_reducible refine G.alloc ?_ _) | (with_reducible refine G.setCell ?_ (by first | (with_reducible exact Nat.le_refl _) | (simp; done) | (simp; omega) | omega) _) | (with_reducible refine G.trans ?_ (by assumption))))
    · obtain ⟨p, hp⟩ : ∃ z : Int, Hid (z = ie c d) := ⟨_, rfl⟩
      have HW := Lib.hid h1
      clear h1
      clear h
      go_enter Tryd.func11, Tryd.ntmps11
      go_wp2_with fail
      go_region_held3 (fun w' => w'.cell? ⟨w.heap.size, 0, none⟩ = some (.int .i64 a) ∧ w'.cell? ⟨w.heap.size, 1, none⟩ = some (.int .i64 b) ∧ w'.cell? ⟨w.heap.size + 1, 0, none⟩ = some (.int .i64 c) ∧ w'.cell? ⟨w.heap.size + 1, 1, none⟩ = some (.int .i64 d))
        (first | (with_reducible assumption) | ((try dsimp only); (repeat' (with_reducible apply And.intro)) <;> go_simp))
        (first | (go_at_call 16; refine (iCheck_any _ _ _).mono ?_; rintro e w1 ⟨rfl, hG⟩; (first | rw [ie_bad HW.out] | rw [← hp.out]); have gq := gb.trans (G.trans (by (repeat' (first | (with_reducible exact G.refl _) | (with_reducible refine G.drewN ?_ _) | (with_reducible refine G.drew ?_) | (with_reducible refine G.alloc ?_ _)))) hG); clear gb; have gb := gq; obtain ⟨⟨y0, y1⟩, ⟨y2, y3⟩, ⟨y4, y5⟩, f0, f1⟩ := duo3_later gb) | (go_at_call 35; refine (OrE_any 2 p _ _ (by go_cell) (by go_cell)).mono ?_; rintro e w1 ⟨rfl, rfl⟩; rw [or2]))
      all_goals
        have gc := G.alloc gb (.cells #[.int .i64 2, .int .i64 p] 24)
        clear y0 y1 y2 y3 y4 y5 f0 f1
        obtain ⟨⟨y0, y1⟩, ⟨y2, y3⟩, ⟨y4, y5⟩, f0, f1⟩ := duo3_later gc
        go_wp2_with fail
        refine bodyPost_ret (v := R) (by rw [HR.out]; simp [results, Tryd.results11, go_sem, y4, y5]) rfl ⟨rfl, ?_⟩
        (repeat' (first | (with_reducible exact G.refl _) | (with_reducible assumption) | (with_reducible refine G.drewN ?_ _) | (with_reducible refine G.drew ?_) | (with_reducible refine G.alloc ?_ _) | (with_reducible refine G.setCell ?_ (by first | (with_reducible exact Nat.le_refl _) | (simp; done) | (simp; omega) | omega) _) | (with_reducible refine G.trans ?_ (by assumption))))
end Go.Proofs.YtkooggakngheoaaDoor
