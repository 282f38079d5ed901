/- IntervalBetween: for every two pitches, Between returns the interval from which Exact leads from the first to the second, or ErrPitch; the arguments read as before; the tables that the row lists are tied to the program text; no further condition. -/
import Derived.Test.YtkooggakngheoaaDoorRBtw
import Derived.BigRegion
namespace Go.Proofs.YtkooggakngheoaaDoor
open Go.RowKit
attribute [local go_sem] World.cell?_alloc_some

set_option maxRecDepth 100000 in
set_option maxHeartbeats 3200000 in
theorem between_bad (s a o x b c : Int) (w : World) (h : ¬ (Ok s a o ∧ Ok x b c)) (hT : Tab w) :
    Calls Tryd.prog 5 #[.agg #[.int .i64 s, .int .i64 a, .int .i64 o], .agg #[.int .i64 x, .int .i64 b, .int .i64 c]] w fun e w' => e = .returned (.bool true) ∧ G w w' := by
  have HT := Lib.hid hT
  have HB := Lib.hid h
  clear hT
  by_cases h1 : Ok s a o
  · have H1 := Lib.hid (decide_eq_true h1)
    have H2 := Lib.hid (decide_eq_false (show ¬ Ok x b c from fun k => h ⟨h1, k⟩))
    clear h h1
    go_enter Tryd.func5, Tryd.ntmps5
    go_wp2_with fail
    refine (iBetween_bad s a o x b c _ HB.out (HT.out.hts.later (by (repeat' (first | (with_reducible exact G.refl _) | (with_reducible assumption) | (with_reducible refine G.drewN ?_ _) | (with_reducible refine G.drew ?_) | (with_reducible refine G.alloc ?_ _) | (with_reducible refine G.setCell ?_ (by first | (with_reducible exact Nat.le_refl _) | (simp; done) | (simp; omega) | omega) _) | (with_reducible refine G.trans ?_ (by assumption))))))).mono ?_
    rintro e w1 ⟨rfl, hG1⟩
    obtain ⟨⟨y0, y1, y2⟩, y3, y4, y5⟩ := ttL_later hG1
    go_wp2_with fail
    refine (known_any _ (HT.out.later (by (repeat' (first | (with_reducible exact G.refl _) | (with_reducible assumption) | (with_reducible refine G.drewN ?_ _) | (with_reducible refine G.drew ?_) | (with_reducible refine G.alloc ?_ _) | (with_reducible refine G.setCell ?_ (by first | (with_reducible exact Nat.le_refl _) | (simp; done) | (simp; omega) | omega) _) | (with_reducible refine G.trans ?_ (by assumption))))))).mono ?_
    rintro e w2 ⟨rfl, hG2⟩
    obtain ⟨u0, u1⟩ := duo_later hG2
    have g12 : G w1 w2 := G.trans (by (repeat' (first | (with_reducible exact G.refl _) | (with_reducible refine G.drewN ?_ _) | (with_reducible refine G.drew ?_) | (with_reducible refine G.alloc ?_ _)))) hG2
    replace y0 := g12.at y0
    replace y1 := g12.at y1
    replace y2 := g12.at y2
    replace y3 := g12.at y3
    replace y4 := g12.at y4
    replace y5 := g12.at y5
    go_wp2_with fail
    refine (rValid_any s a o _).mono ?_
    rintro e w3 ⟨rfl, hG3⟩
    rw [H1.out]
    replace u0 := hG3.at u0
    replace u1 := hG3.at u1
    replace y3 := hG3.at y3
    replace y4 := hG3.at y4
    replace y5 := hG3.at y5
    clear y0 y1 y2
    go_wp2_with fail
    refine (rValid_any x b c _).mono ?_
    rintro e w4 ⟨rfl, hG4⟩
    rw [H2.out]
    replace u0 := hG4.at u0
    replace u1 := hG4.at u1
    go_wp2_with fail
    go_ret
    exact ⟨by first | rfl | simp, by (repeat' (first | (with_reducible exact G.refl _) | (with_reducible assumption) | (with_reducible refine G.drewN ?_ _) | (with_reducible refine G.drew ?_) | (with_reducible refine G.alloc ?_ _) | (with_reducible refine G.setCell ?_ (by first | (with_reducible exact Nat.le_refl _) | (simp; done) | (simp; omega) | omega) _) | (with_reducible refine G.trans ?_ (by assumption))))⟩
  · have H1 := Lib.hid (decide_eq_false h1)
    clear h h1
    go_enter Tryd.func5, Tryd.ntmps5
    go_wp2_with fail
    refine (iBetween_bad s a o x b c _ HB.out (HT.out.hts.later (by (repeat' (first | (with_reducible exact G.refl _) | (with_reducible assumption) | (with_reducible refine G.drewN ?_ _) | (with_reducible refine G.drew ?_) | (with_reducible refine G.alloc ?_ _) | (with_reducible refine G.setCell ?_ (by first | (with_reducible exact Nat.le_refl _) | (simp; done) | (simp; omega) | omega) _) | (with_reducible refine G.trans ?_ (by assumption))))))).mono ?_
    rintro e w1 ⟨rfl, hG1⟩
    obtain ⟨⟨y0, y1, y2⟩, y3, y4, y5⟩ := ttL_later hG1
    go_wp2_with fail
    refine (known_any _ (HT.out.later (by (repeat' (first | (with_reducible exact G.refl _) | (with_reducible assumption) | (with_reducible refine G.drewN ?_ _) | (with_reducible refine G.drew ?_) | (with_reducible refine G.alloc ?_ _) | (with_reducible refine G.setCell ?_ (by first | (with_reducible exact Nat.le_refl _) | (simp; done) | (simp; omega) | omega) _) | (with_reducible refine G.trans ?_ (by assumption))))))).mono ?_
    rintro e w2 ⟨rfl, hG2⟩
    obtain ⟨u0, u1⟩ := duo_later hG2
    have g12 : G w1 w2 := G.trans (by (repeat' (first | (with_reducible exact G.refl _) | (with_reducible refine G.drewN ?_ _) | (with_reducible refine G.drew ?_) | (with_reducible refine G.alloc ?_ _)))) hG2
    replace y0 := g12.at y0
    replace y1 := g12.at y1
    replace y2 := g12.at y2
    clear y3 y4 y5
    go_wp2_with fail
    refine (rValid_any s a o _).mono ?_
    rintro e w3 ⟨rfl, hG3⟩
    rw [H1.out]
    replace u0 := hG3.at u0
    replace u1 := hG3.at u1
    clear y0 y1 y2
    go_wp2_with fail
    go_ret
    exact ⟨by first | rfl | simp, by (repeat' (first | (with_reducible exact G.refl _) | (with_reducible assumption) | (with_reducible refine G.drewN ?_ _) | (with_reducible refine G.drew ?_) | (with_reducible refine G.alloc ?_ _) | (with_reducible refine G.setCell ?_ (by first | (with_reducible exact Nat.le_refl _) | (simp; done) | (simp; omega) | omega) _) | (with_reducible refine G.trans ?_ (by assumption))))⟩

set_option maxRecDepth 100000 in
set_option maxHeartbeats 3200000 in
theorem between_ok (s a o x b c : Int) (w : World) (h : Ok s a o) (h2 : Ok x b c) (hT : Tab w) :
    Calls Tryd.prog 5 #[.agg #[.int .i64 s, .int .i64 a, .int .i64 o], .agg #[.int .i64 x, .int .i64 b, .int .i64 c]] w fun e w' => e = .returned (.bool true) ∧ G w w' := by
  have HT := Lib.hid hT
  have HO := Lib.hid h
  have HP := Lib.hid h2
  have H1 := Lib.hid (decide_eq_true h)
  have H2 := Lib.hid (decide_eq_true h2)
  have I1 : Hid (Inr s a o) := Lib.hid h.1
  have I2 : Hid (Inr x b c) := Lib.hid h2.1
  obtain ⟨D, hD⟩ : ∃ z : Int, Hid (z = 7 * c + x - (7 * o + s)) := ⟨_, rfl⟩
  obtain ⟨M, hM⟩ : ∃ z : Int, Hid (z = ht x b c - ht s a o) := ⟨_, rfl⟩
  have hiv : Iv D M := by
    obtain ⟨⟨⟨_, _⟩, ⟨_, _⟩, _, _⟩, _, _⟩ := h
    obtain ⟨⟨⟨_, _⟩, ⟨_, _⟩, _, _⟩, _, _⟩ := h2
    have e1 := hD.out
    have e2 := hM.out
    exact ⟨⟨by omega, by omega⟩, by omega, by omega⟩
  have hex : exE s a o D M = 0 ∧ exR s a o D M = (x, b, c) := by
    refine exE_of h hiv (t := (x, b, c)) h2 ?_ ?_
    · show ht x b c = _; rw [hM.out]; omega
    · rw [show kP (x, b, c) = 7 * c + x from if_pos h2, show k2 s a o = 7 * o + s from if_pos h, hD.out]; omega
  have HE := Lib.hid hex.1
  have HR := Lib.hid hex.2
  have HI := Lib.hid (ie_ok hiv)
  clear hT h h2 hiv hex
  go_enter Tryd.func5, Tryd.ntmps5
  go_wp2_with fail
  refine (iBetween_ok s a o x b c _ HO.out HP.out (HT.out.hts.later (by (repeat' (first | (with_reducible exact G.refl _) | (with_reducible assumption) | (with_reducible refine G.drewN ?_ _) | (with_reducible refine G.drew ?_) | (with_reducible refine G.alloc ?_ _) | (with_reducible refine G.setCell ?_ (by first | (with_reducible exact Nat.le_refl _) | (simp; done) | (simp; omega) | omega) _) | (with_reducible refine G.trans ?_ (by assumption))))))).mono ?_
  rintro e w1 ⟨rfl, hG1⟩
  rw [← hD.out, ← hM.out]
  obtain ⟨⟨y0, y1, y2⟩, y3, y4, y5⟩ := ttL_later hG1
  go_wp2_with fail
  refine (known_any _ (HT.out.later (by (repeat' (first | (with_reducible exact G.refl _) | (with_reducible assumption) | (with_reducible refine G.drewN ?_ _) | (with_reducible refine G.drew ?_) | (with_reducible refine G.alloc ?_ _) | (with_reducible refine G.setCell ?_ (by first | (with_reducible exact Nat.le_refl _) | (simp; done) | (simp; omega) | omega) _) | (with_reducible refine G.trans ?_ (by assumption))))))).mono ?_
  rintro e w2 ⟨rfl, hG2⟩
  obtain ⟨u0, u1⟩ := duo_later hG2
  have g12 : G w1 w2 := G.trans (by (repeat' (first | (with_reducible exact G.refl _) | (with_reducible refine G.drewN ?_ _) | (with_reducible refine G.drew ?_) | (with_reducible refine G.alloc ?_ _)))) hG2
  replace y0 := g12.at y0
  replace y1 := g12.at y1
  replace y2 := g12.at y2
  replace y3 := g12.at y3
  replace y4 := g12.at y4
  replace y5 := g12.at y5
  go_wp2_with fail
  refine (rValid_any s a o _).mono ?_
  rintro e w3 ⟨rfl, hG3⟩
  rw [H1.out]
  replace u0 := hG3.at u0
  replace u1 := hG3.at u1
  replace y0 := hG3.at y0
  replace y1 := hG3.at y1
  replace y2 := hG3.at y2
  replace y3 := hG3.at y3
  replace y4 := hG3.at y4
  replace y5 := hG3.at y5
  go_wp2_with fail
  refine (rValid_any x b c _).mono ?_
  rintro e w4 ⟨rfl, hG4⟩
  rw [H2.out]
  replace u0 := hG4.at u0
  replace u1 := hG4.at u1
  replace y0 := hG4.at y0
  replace y1 := hG4.at y1
  replace y2 := hG4.at y2
  replace y3 := hG4.at y3
  replace y4 := hG4.at y4
  replace y5 := hG4.at y5
  go_wp2_with fail
  refine (iExact_any s a o D M _ (HT.out.hts.later (by (repeat' (first | (with_reducible exact G.refl _) | (with_reducible assumption) | (with_reducible refine G.drewN ?_ _) | (with_reducible refine G.drew ?_) | (with_reducible refine G.alloc ?_ _) | (with_reducible refine G.setCell ?_ (by first | (with_reducible exact Nat.le_refl _) | (simp; done) | (simp; omega) | omega) _) | (with_reducible refine G.trans ?_ (by assumption))))))).mono ?_
  rintro e w5 ⟨rfl, hG5⟩
  rw [HE.out, HR.out]
  have g5 : G w4 (w5.alloc (.cells #[.int .i64 x, .int .i64 b, .int .i64 c] 41)) := hG5.alloc _
  replace u0 := g5.at u0
  replace u1 := g5.at u1
  replace y0 := g5.at y0
  replace y1 := g5.at y1
  replace y2 := g5.at y2
  replace y3 := g5.at y3
  replace y4 := g5.at y4
  replace y5 := g5.at y5
  obtain ⟨v0, v1, v2⟩ := tri_later (G.refl (w5.alloc (.cells #[.int .i64 x, .int .i64 b, .int .i64 c] 41)))
  have gw : G w (w5.alloc (.cells #[.int .i64 x, .int .i64 b, .int .i64 c] 41)) := by (repeat' (first | (with_reducible exact G.refl _) | (with_reducible assumption) | (with_reducible refine G.drewN ?_ _) | (with_reducible refine G.drew ?_) | (with_reducible refine G.alloc ?_ _) | (with_reducible refine G.setCell ?_ (by first | (with_reducible exact Nat.le_refl _) | (simp; done) | (simp; omega) | omega) _) | (with_reducible refine G.trans ?_ (by assumption))))
  go_wp2_with fail
  generalize hWZ : w5.alloc (.cells #[.int .i64 x, .int .i64 b, .int .i64 c] 41) = WZ at *
  have gc := G.refl WZ
  clear hWZ
  go_region_held3 (fun w' => w'.cell? ⟨w.heap.size, 0, none⟩ = some (.int .i64 s) ∧ w'.cell? ⟨w.heap.size, 1, none⟩ = some (.int .i64 a) ∧ w'.cell? ⟨w.heap.size, 2, none⟩ = some (.int .i64 o) ∧ w'.cell? ⟨w.heap.size + 1, 0, none⟩ = some (.int .i64 x) ∧ w'.cell? ⟨w.heap.size + 1, 1, none⟩ = some (.int .i64 b) ∧ w'.cell? ⟨w.heap.size + 1, 2, none⟩ = some (.int .i64 c) ∧ w'.cell? ⟨w1.heap.size, 0, none⟩ = some (.int .i64 D) ∧ w'.cell? ⟨w1.heap.size, 1, none⟩ = some (.int .i64 M) ∧ w'.cell? ⟨w5.heap.size, 0, none⟩ = some (.int .i64 x) ∧ w'.cell? ⟨w5.heap.size, 1, none⟩ = some (.int .i64 b) ∧ w'.cell? ⟨w5.heap.size, 2, none⟩ = some (.int .i64 c))
    (first | (with_reducible assumption) | ((try dsimp only); (repeat' (with_reducible apply And.intro)) <;> go_simp))
    (first
      | (go_at_call 23; ((with_reducible refine (rBetween_any s a o x b c _ I1.out I2.out).mono ?_); rintro e w9 ⟨rfl, hG9⟩; rw [← hD.out, ← hM.out]; have gq := gc.trans (G.trans (by (repeat' (first | (with_reducible exact G.refl _) | (with_reducible refine G.drewN ?_ _) | (with_reducible refine G.drew ?_) | (with_reducible refine G.alloc ?_ _)))) hG9); clear gc; have gc := gq; have y0' := gc.at y0; have y1' := gc.at y1; have y2' := gc.at y2; have y3' := gc.at y3; have y4' := gc.at y4; have y5' := gc.at y5; have u0' := gc.at u0; have u1' := gc.at u1; have v0' := gc.at v0; have v1' := gc.at v1; have v2' := gc.at v2))
      | (go_at_call 16; ((with_reducible refine (iCheck_any D M _).mono ?_); rintro e w9 ⟨rfl, hG9⟩; rw [HI.out]; have gq := gc.trans (G.trans (by (repeat' (first | (with_reducible exact G.refl _) | (with_reducible refine G.drewN ?_ _) | (with_reducible refine G.drew ?_) | (with_reducible refine G.alloc ?_ _)))) hG9); clear gc; have gc := gq; have y0' := gc.at y0; have y1' := gc.at y1; have y2' := gc.at y2; have y3' := gc.at y3; have y4' := gc.at y4; have y5' := gc.at y5; have u0' := gc.at u0; have u1' := gc.at u1; have v0' := gc.at v0; have v1' := gc.at v1; have v2' := gc.at v2)))
  all_goals
    go_wp2_with fail
    go_ret
    exact ⟨by first | rfl | simp, by (repeat' (first | (with_reducible exact G.refl _) | (with_reducible assumption) | (with_reducible refine G.drewN ?_ _) | (with_reducible refine G.drew ?_) | (with_reducible refine G.alloc ?_ _) | (with_reducible refine G.setCell ?_ (by first | (with_reducible exact Nat.le_refl _) | (simp; done) | (simp; omega) | omega) _) | (with_reducible refine G.trans ?_ (by assumption))))⟩

theorem between_walk (s a o x b c : Int) (w : World) (_ : -9223372036854775808 ≤ s) (_ : s ≤ 9223372036854775807) (_ : -9223372036854775808 ≤ a) (_ : a ≤ 9223372036854775807) (_ : -9223372036854775808 ≤ o) (_ : o ≤ 9223372036854775807) (_ : -9223372036854775808 ≤ x) (_ : x ≤ 9223372036854775807) (_ : -9223372036854775808 ≤ b) (_ : b ≤ 9223372036854775807) (_ : -9223372036854775808 ≤ c) (_ : c ≤ 9223372036854775807) (hT : Tab w) :
    Calls Tryd.prog 5 #[.agg #[.int .i64 s, .int .i64 a, .int .i64 o], .agg #[.int .i64 x, .int .i64 b, .int .i64 c]] w fun e w' => e = .returned (.bool true) ∧ G w w' := by
  by_cases h : Ok s a o ∧ Ok x b c
  · exact between_ok s a o x b c w h.1 h.2 hT
  · exact between_bad s a o x b c w h hT

/-! ### the row and the card -/
open Go.ChangeShapes Go.WideShapes Go.ChangeAt Go.RowKit
set_option maxRecDepth 100000 in
theorem intervalBetween_lifted (os : Os) (started : os.Started) (H : Type) (enc : TypeId × Value → H) :
    ReturnsInHanded {} Tryd.checked os 5 .any (fun w args => (Rows.intervalBetweenSpec.pre enc Tryd.prog Tryd.f5 [] false w args ∧ laidMetH Tryd.prog laidL w) ∧ sizedMet enc Tryd.prog Tryd.f5 (OpenSpec.ofChange Rows.intervalBetweenSpec) false w args)
      (Rows.intervalBetweenSpec.post enc Tryd.prog Tryd.f5 false true false false) := by
  refine returnsInHanded_of_change_and (C := Tryd.checked) (X := fun w _ => laidMetH Tryd.prog laidL w) (fun _ _ _ hh h => h.of_heap hh) own started (by kernel_rfl) Tryd.func5
    (ChangeSpec.witness_shaped (enc := enc) (C := Tryd.checked) (os := os) (X := fun w _ => laidMetH Tryd.prog laidL w) false (World.laidAll Tryd.prog os laidL) #[.agg #[.int .i64 0, .int .i64 0, .int .i64 0], .agg #[.int .i64 0, .int .i64 0, .int .i64 0]] 8 (World.laidAll_os _ _ _) (shapedL os) (by kernel_rfl) (by kernel_rfl) (by kernel_rfl) (laid_met os _)) ?_
  intro W base args ds gs before hval0 hW _ _ hL _
  have hval : ∀ (j : Nat) t v, Tryd.f5.params[j]? = some t → args[j]? = some v → Value.okWide Tryd.prog W .any base t v := hval0
  have hW' := hW
  obtain ⟨p, q, hA0, hV, rfl, hfz, hnd⟩ := hW
  have hA : DataW.TrodAll enc Tryd.prog W 0 (fun _ => true) true Tryd.f5.params.toList args.toList ds p := hA0
  rw [Tryd.params5] at hA hval
  obtain ⟨v0, vs0, d0, ds0, p0, q0, hargs, rfl, rfl, h0, r0⟩ := trodAll_cons hA
  obtain ⟨v1, vs1, d1, ds1, p1, q1, rfl, rfl, rfl, h1, r1⟩ := trodAll_cons r0
  obtain ⟨rfl, rfl, rfl⟩ := trodAll_nil r1
  obtain rfl : args = #[v0, v1] := by cases args; simp_all
  obtain ⟨rfl, rfl⟩ := trodVars_none hV
  obtain ⟨a0, b0, c0, rfl, rfl, rfl, w0, u0, y0⟩ := open_pitch (hval 0 41 v0 rfl rfl) h0
  obtain ⟨al0, ah0⟩ := bounds_i64 w0
  obtain ⟨bl0, bh0⟩ := bounds_i64 u0
  obtain ⟨cl0, ch0⟩ := bounds_i64 y0
  obtain ⟨a1, b1, c1, rfl, rfl, rfl, w1, u1, y1⟩ := open_pitch (hval 1 41 v1 rfl rfl) h1
  obtain ⟨al1, ah1⟩ := bounds_i64 w1
  obtain ⟨bl1, bh1⟩ := bounds_i64 u1
  obtain ⟨cl1, ch1⟩ := bounds_i64 y1
  clear hA0 hval0
  simp only [List.append_nil] at hW'
  refine (between_walk a0 b0 c0 a1 b1 c1 W al0 ah0 bl0 bh0 cl0 ch0 al1 ah1 bl1 bh1 cl1 ch1  (tab_of_laid hL)).mono fun e W' ⟨he, hg⟩ => ?_
  subst he
  exact ⟨_, rfl, _, _, _, [], [], [], hW', (trodAll_cons_mk (shut_bool Tryd.underlying4 _) trodAll_mk0), (trodAll_cons_mk (shut_pitch w0 u0 y0) (trodAll_cons_mk (shut_pitch w1 u1 y1) trodAll_mk0)), rfl, Below.frame hg _, fun h => by cases h⟩

theorem intervalBetween_holds : Rows.IntervalBetweenSaid :=
  OpenClaim.holds_of_wide 5 Tryd.f5 rfl rfl rfl rfl rfl rfl rfl ⟨rfl, rfl, rfl, rfl, rfl⟩ rfl rfl rfl rfl rfl (by kernel_rfl) Tryd.func5 (by kernel_rfl)
    (of_decide_eq_true (by kernel_rfl)) (by unfold Func.isWrapper; first | (rw [if_pos (by decide +kernel)]; kernel_rfl) | (rw [if_neg (by decide +kernel)]; exact ⟨rfl, rfl⟩))
    (fun os started H enc _ => intervalBetween_lifted os started H enc)

theorem intervalBetween_card : Rows.IntervalBetweenCardSaid :=
  Claim7.holds_tied_plain_at .later [] [.data, .data, .data, .data, .data] true (true, "07eaf8fc6e67b9a0961191b344b017356c7addb51c8f341747d9d4082577b353") false
    intervalBetween_holds (fun _ h => by cases h) (by kernel_rfl) (fun _ h => by cases h) intervalBetween_row_tie rfl ⟨rfl, rfl⟩ (by kernel_rfl) rfl
    (fun f fn hf hfn => by
      obtain rfl : f = 5 := Option.some.inj ((show Tryd.prog.funcNamed "hemiola/hemiolalaw06.IntervalBetween" = some 5 by kernel_rfl).symm.trans hf) |>.symm
      obtain rfl : fn = Tryd.f5 := (Option.some.inj (Tryd.func5.symm.trans hfn)).symm
      exact ⟨by kernel_rfl, fun j t ht => by
        rw [Tryd.params5] at ht
        have hm : t ∈ [41, 41] := by simpa using Array.mem_of_getElem? ht
        have hall : ([41, 41].all fun u => !Tryd.prog.wantsStandIn u) = true := by kernel_rfl
        exact (show Tryd.prog.wantsStandIn t = false by simpa using List.all_eq_true.1 hall t hm)⟩)
    (by kernel_rfl)
#print axioms intervalBetween_card
end Go.Proofs.YtkooggakngheoaaDoor
