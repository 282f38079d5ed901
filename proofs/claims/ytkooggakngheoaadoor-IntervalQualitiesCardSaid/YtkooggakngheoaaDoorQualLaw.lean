/- IntervalQualities: for every interval, Quality, Simple and Invert return what the document says and the errors, and Invert is its own inverse; the arguments read as before; the tables that the row lists are tied to the program text; no further condition. -/
import Derived.Test.YtkooggakngheoaaDoorLB
import Derived.Test.YtkooggakngheoaaDoorRQ
import Derived.Test.YtkooggakngheoaaDoorIv11
namespace Go.Proofs.YtkooggakngheoaaDoor
open Go.RowKit
attribute [local go_sem] World.cell?_alloc_some

theorem iInvert_good (s t : Int) (w : World) (h : Iv s t) (h0 : 0 ≤ s) (h1 : s ≤ 7) (h2 : Iv (7 - s) (12 - t)) :
    Calls Tryd.prog 32 #[.agg #[.int .i64 s, .int .i64 t]] w fun e w' => e = .returned (.tuple #[.agg #[.int .i64 (7 - s), .int .i64 (12 - t)], .int .i64 0]) ∧ G w w' := by
  have hS : Sm 7 12 (-s) (-t) := ⟨⟨by decide, by obtain ⟨⟨_, _⟩, _, _⟩ := h; exact ⟨⟨by omega, by omega⟩, by omega, by omega⟩⟩, h2⟩
  refine (iInvert_in s t (-t) w h0 h1 (IntWalk.i64_in (-t) (by obtain ⟨⟨_, _⟩, _, _⟩ := h; omega))).mono ?_
  rintro e w' ⟨rfl, hG⟩
  refine ⟨?_, hG⟩
  unfold sy se
  rw [if_pos hS, if_pos hS, if_pos hS]
  rfl
theorem iInvert_none (s t t' : Int) (w : World) (h0 : 0 ≤ s) (h1 : s ≤ 7) (ht : IntKind.i64.wrap (-t) = t') (h2 : ¬ Sm 7 12 (-s) t') :
    Calls Tryd.prog 32 #[.agg #[.int .i64 s, .int .i64 t]] w fun e w' => e = .returned (.tuple #[.agg #[.int .i64 0, .int .i64 0], .int .i64 2]) ∧ G w w' := by
  refine (iInvert_in s t t' w h0 h1 ht).mono ?_
  rintro e w' ⟨rfl, hG⟩
  refine ⟨?_, hG⟩
  unfold sy se
  rw [if_neg h2, if_neg h2, if_neg h2]
theorem iInvert_bad (s t : Int) (w : World) (t0 : -9223372036854775808 ≤ t) (t1 : t ≤ 9223372036854775807) (h : ¬ Iv s t) :
    Calls Tryd.prog 32 #[.agg #[.int .i64 s, .int .i64 t]] w fun e w' => e = .returned (.tuple #[.agg #[.int .i64 0, .int .i64 0], .int .i64 2]) ∧ G w w' := by
  by_cases c : s < 0 ∨ 7 < s
  · exact iInvert_out s t w c
  · have ht : t < -140 ∨ 140 < t := by unfold Iv at h; omega
    by_cases m : t = -9223372036854775808
    · subst m
      exact iInvert_none s _ (-9223372036854775808) w (by omega) (by omega) (by decide +kernel) (fun k => by have := k.1.2.2; omega)
    · exact iInvert_none s t (-t) w (by omega) (by omega) (IntWalk.i64_in (-t) (by omega)) (fun k => by have := k.1.2.2; omega)

set_option maxRecDepth 100000 in
set_option maxHeartbeats 3200000 in
theorem qualities_bad (s t : Int) (w : World) (t0 : -9223372036854775808 ≤ t) (t1 : t ≤ 9223372036854775807) (h : ¬ Iv s t) (hT : Tab w) :
    Calls Tryd.prog 10 #[.agg #[.int .i64 s, .int .i64 t]] w fun e w' => e = .returned (.bool true) ∧ G w w' := by
  have HT := Lib.hid hT
  have HV := Lib.hid h
  have HB := Lib.hid (And.intro t0 t1)
  clear hT h t0 t1
  go_enter Tryd.func10, Tryd.ntmps10
  go_wp2_with fail
  refine (iQuality_bad s t _ HV.out).mono ?_
  rintro e w1 ⟨rfl, hG1⟩
  obtain ⟨y0, y1⟩ := duo_later hG1
  go_wp2_with fail
  refine (iSimple_bad s t _ HV.out).mono ?_
  rintro e w2 ⟨rfl, hG2⟩
  replace y0 := hG2.at y0
  replace y1 := hG2.at y1
  go_wp2_with fail
  refine (iInvert_bad s t _ HB.out.1 HB.out.2 HV.out).mono ?_
  rintro e w3 ⟨rfl, hG3⟩
  obtain ⟨z0, z1⟩ := duo_later hG3
  have g3 : G w2 w3 := G.trans (by (repeat' (first | (with_reducible exact G.refl _) | (with_reducible refine G.drewN ?_ _) | (with_reducible refine G.drew ?_) | (with_reducible refine G.alloc ?_ _)))) hG3
  replace y0 := g3.at y0
  replace y1 := g3.at y1
  go_wp2_with fail
  refine (known_any _ (HT.out.later (by (repeat' (first | (with_reducible exact G.refl _) | (with_reducible assumption) | (with_reducible refine G.drewN ?_ _) | (with_reducible refine G.drew ?_) | (with_reducible refine G.alloc ?_ _) | (with_reducible refine G.setCell ?_ (by first | (with_reducible exact Nat.le_refl _) | (simp; done) | (simp; omega) | omega) _) | (with_reducible refine G.trans ?_ (by assumption))))))).mono ?_
  rintro e w4 ⟨rfl, hG4⟩
  obtain ⟨u0, u1⟩ := duo_later hG4
  have g4 : G w3 w4 := G.trans (by (repeat' (first | (with_reducible exact G.refl _) | (with_reducible refine G.drewN ?_ _) | (with_reducible refine G.drew ?_) | (with_reducible refine G.alloc ?_ _)))) hG4
  replace y0 := g4.at y0
  replace y1 := g4.at y1
  replace z0 := g4.at z0
  replace z1 := g4.at z1
  go_wp2_with fail
  refine (rIs_any s t _).mono ?_
  rintro e w5 ⟨rfl, hG5⟩
  rw [decide_eq_false HV.out]
  replace z0 := hG5.at z0
  replace z1 := hG5.at z1
  replace u0 := hG5.at u0
  replace u1 := hG5.at u1
  clear y0 y1
  go_wp2_with fail
  go_ret
  exact ⟨by first | rfl | simp, by (repeat' (first | (with_reducible exact G.refl _) | (with_reducible assumption) | (with_reducible refine G.drewN ?_ _) | (with_reducible refine G.drew ?_) | (with_reducible refine G.alloc ?_ _) | (with_reducible refine G.setCell ?_ (by first | (with_reducible exact Nat.le_refl _) | (simp; done) | (simp; omega) | omega) _) | (with_reducible refine G.trans ?_ (by assumption))))⟩

set_option maxRecDepth 100000 in
set_option maxHeartbeats 6400000 in
theorem qualities_ok (s t : Int) (w : World) (h : Iv s t) (hT : Tab w) :
    Calls Tryd.prog 10 #[.agg #[.int .i64 s, .int .i64 t]] w fun e w' => e = .returned (.bool true) ∧ G w w' := by
  have HT := Lib.hid hT
  have HV := Lib.hid h
  obtain ⟨⟨s0, s1⟩, t0, t1⟩ := h
  obtain ⟨Q1, hQ1⟩ : ∃ z : Int, Hid (z = qQ s t) := ⟨_, rfl⟩
  obtain ⟨Q2, hQ2⟩ : ∃ z : Int, Hid (z = qT s t) := ⟨_, rfl⟩
  obtain ⟨M1, hM1⟩ : ∃ z : Int, Hid (z = smS s t) := ⟨_, rfl⟩
  obtain ⟨M2, hM2⟩ : ∃ z : Int, Hid (z = smT s t) := ⟨_, rfl⟩
  obtain ⟨M3, hM3⟩ : ∃ z : Int, Hid (z = smO s t) := ⟨_, rfl⟩
  have p1 := IntWalk.i64_in (7 - s) (by omega)
  have p2 := IntWalk.i64_in (12 - t) (by omega)
  clear hT
  by_cases c : s < 0 ∨ 7 < s
  · have HC := Lib.hid c
    rcases c with c | c
    all_goals
      go_enter Tryd.func10, Tryd.ntmps10
      go_wp2_with fail
      refine (iQuality_ok s t _ HV.out (HT.out.later (by (repeat' (first | (with_reducible exact G.refl _) | (with_reducible assumption) | (with_reducible refine G.drewN ?_ _) | (with_reducible refine G.drew ?_) | (with_reducible refine G.alloc ?_ _) | (with_reducible refine G.setCell ?_ (by first | (with_reducible exact Nat.le_refl _) | (simp; done) | (simp; omega) | omega) _) | (with_reducible refine G.trans ?_ (by assumption)))))).hts (HT.out.later (by (repeat' (first | (with_reducible exact G.refl _) | (with_reducible assumption) | (with_reducible refine G.drewN ?_ _) | (with_reducible refine G.drew ?_) | (with_reducible refine G.alloc ?_ _) | (with_reducible refine G.setCell ?_ (by first | (with_reducible exact Nat.le_refl _) | (simp; done) | (simp; omega) | omega) _) | (with_reducible refine G.trans ?_ (by assumption)))))).fam).mono ?_
      rintro e w1 ⟨rfl, hG1⟩
      rw [← hQ1.out, ← hQ2.out]
      obtain ⟨y0, y1⟩ := duo_later hG1
      go_wp2_with fail
      refine (iSimple_ok s t _ HV.out).mono ?_
      rintro e w2 ⟨rfl, hG2⟩
      rw [← hM1.out, ← hM2.out, ← hM3.out]
      replace y0 := hG2.at y0
      replace y1 := hG2.at y1
      go_wp2_with fail
      refine (iInvert_out s t _ HC.out).mono ?_
      rintro e w3 ⟨rfl, hG3⟩
      obtain ⟨z0, z1⟩ := duo_later hG3
      have g3 : G w2 w3 := G.trans (by (repeat' (first | (with_reducible exact G.refl _) | (with_reducible refine G.drewN ?_ _) | (with_reducible refine G.drew ?_) | (with_reducible refine G.alloc ?_ _)))) hG3
      replace y0 := g3.at y0
      replace y1 := g3.at y1
      go_wp2_with fail
      refine (known_any _ (HT.out.later (by (repeat' (first | (with_reducible exact G.refl _) | (with_reducible assumption) | (with_reducible refine G.drewN ?_ _) | (with_reducible refine G.drew ?_) | (with_reducible refine G.alloc ?_ _) | (with_reducible refine G.setCell ?_ (by first | (with_reducible exact Nat.le_refl _) | (simp; done) | (simp; omega) | omega) _) | (with_reducible refine G.trans ?_ (by assumption))))))).mono ?_
      rintro e w4 ⟨rfl, hG4⟩
      obtain ⟨u0, u1⟩ := duo_later hG4
      have g4 : G w3 w4 := G.trans (by (repeat' (first | (with_reducible exact G.refl _) | (with_reducible refine G.drewN ?_ _) | (with_reducible refine G.drew ?_) | (with_reducible refine G.alloc ?_ _)))) hG4
      replace y0 := g4.at y0
      replace y1 := g4.at y1
      replace z0 := g4.at z0
      replace z1 := g4.at z1
      go_wp2_with fail
      refine (rIs_any s t _).mono ?_
      rintro e w5 ⟨rfl, hG5⟩
      rw [decide_eq_true HV.out]
      replace y0 := hG5.at y0
      replace y1 := hG5.at y1
      replace z0 := hG5.at z0
      replace z1 := hG5.at z1
      replace u0 := hG5.at u0
      replace u1 := hG5.at u1
      go_wp2_with fail
      refine (rQuality_any s t _ HV.out).mono ?_
      rintro e w6 ⟨rfl, hG6⟩
      rw [← hQ1.out, ← hQ2.out]
      replace y0 := hG6.at y0
      replace y1 := hG6.at y1
      replace z0 := hG6.at z0
      replace z1 := hG6.at z1
      replace u0 := hG6.at u0
      replace u1 := hG6.at u1
      go_wp2_with fail
      refine (rSimple_any s t _ HV.out).mono ?_
      rintro e w7 ⟨rfl, hG7⟩
      rw [← hM1.out, ← hM2.out, ← hM3.out]
      replace y0 := hG7.at y0
      replace y1 := hG7.at y1
      replace z0 := hG7.at z0
      replace z1 := hG7.at z1
      replace u0 := hG7.at u0
      replace u1 := hG7.at u1
      go_wp2_with fail
      go_ret
      exact ⟨by first | rfl | simp, by (repeat' (first | (with_reducible exact G.refl _) | (with_reducible assumption) | (with_reducible refine G.drewN ?_ _) | (with_reducible refine G.drew ?_) | (with_reducible refine G.alloc ?_ _) | (with_reducible refine G.setCell ?_ (by first | (with_reducible exact Nat.le_refl _) | (simp; done) | (simp; omega) | omega) _) | (with_reducible refine G.trans ?_ (by assumption))))⟩
  · have c0 : 0 ≤ s := by omega
    have c1 : s ≤ 7 := by omega
    clear c
    have HS := Lib.hid (And.intro c0 c1)
    by_cases d : Iv (7 - s) (12 - t)
    · have HD := Lib.hid d
      have HD2 := Lib.hid (show 7 - (7 - s) = s ∧ 12 - (12 - t) = t by omega)
      have HD3 := Lib.hid (show 0 ≤ 7 - s ∧ 7 - s ≤ 7 ∧ Iv (7 - (7 - s)) (12 - (12 - t)) from ⟨by omega, by omega, by rw [HD2.out.1, HD2.out.2]; exact HV.out⟩)
      clear d
      go_enter Tryd.func10, Tryd.ntmps10
      go_wp2_with fail
      refine (iQuality_ok s t _ HV.out (HT.out.later (by (repeat' (first | (with_reducible exact G.refl _) | (with_reducible assumption) | (with_reducible refine G.drewN ?_ _) | (with_reducible refine G.drew ?_) | (with_reducible refine G.alloc ?_ _) | (with_reducible refine G.setCell ?_ (by first | (with_reducible exact Nat.le_refl _) | (simp; done) | (simp; omega) | omega) _) | (with_reducible refine G.trans ?_ (by assumption)))))).hts (HT.out.later (by (repeat' (first | (with_reducible exact G.refl _) | (with_reducible assumption) | (with_reducible refine G.drewN ?_ _) | (with_reducible refine G.drew ?_) | (with_reducible refine G.alloc ?_ _) | (with_reducible refine G.setCell ?_ (by first | (with_reducible exact Nat.le_refl _) | (simp; done) | (simp; omega) | omega) _) | (with_reducible refine G.trans ?_ (by assumption)))))).fam).mono ?_
      rintro e w1 ⟨rfl, hG1⟩
      rw [← hQ1.out, ← hQ2.out]
      obtain ⟨y0, y1⟩ := duo_later hG1
      go_wp2_with fail
      refine (iSimple_ok s t _ HV.out).mono ?_
      rintro e w2 ⟨rfl, hG2⟩
      rw [← hM1.out, ← hM2.out, ← hM3.out]
      replace y0 := hG2.at y0
      replace y1 := hG2.at y1
      go_wp2_with fail
      refine (iInvert_good s t _ HV.out HS.out.1 HS.out.2 HD.out).mono ?_
      rintro e w3 ⟨rfl, hG3⟩
      obtain ⟨z0, z1⟩ := duo_later hG3
      have g3 : G w2 w3 := G.trans (by (repeat' (first | (with_reducible exact G.refl _) | (with_reducible refine G.drewN ?_ _) | (with_reducible refine G.drew ?_) | (with_reducible refine G.alloc ?_ _)))) hG3
      replace y0 := g3.at y0
      replace y1 := g3.at y1
      go_wp2_with fail
      refine (known_any _ (HT.out.later (by (repeat' (first | (with_reducible exact G.refl _) | (with_reducible assumption) | (with_reducible refine G.drewN ?_ _) | (with_reducible refine G.drew ?_) | (with_reducible refine G.alloc ?_ _) | (with_reducible refine G.setCell ?_ (by first | (with_reducible exact Nat.le_refl _) | (simp; done) | (simp; omega) | omega) _) | (with_reducible refine G.trans ?_ (by assumption))))))).mono ?_
      rintro e w4 ⟨rfl, hG4⟩
      obtain ⟨u0, u1⟩ := duo_later hG4
      have g4 : G w3 w4 := G.trans (by (repeat' (first | (with_reducible exact G.refl _) | (with_reducible refine G.drewN ?_ _) | (with_reducible refine G.drew ?_) | (with_reducible refine G.alloc ?_ _)))) hG4
      replace y0 := g4.at y0
      replace y1 := g4.at y1
      replace z0 := g4.at z0
      replace z1 := g4.at z1
      go_wp2_with fail
      refine (rIs_any s t _).mono ?_
      rintro e w5 ⟨rfl, hG5⟩
      rw [decide_eq_true HV.out]
      replace y0 := hG5.at y0
      replace y1 := hG5.at y1
      replace z0 := hG5.at z0
      replace z1 := hG5.at z1
      replace u0 := hG5.at u0
      replace u1 := hG5.at u1
      go_wp2_with fail
      refine (rQuality_any s t _ HV.out).mono ?_
      rintro e w6 ⟨rfl, hG6⟩
      rw [← hQ1.out, ← hQ2.out]
      replace y0 := hG6.at y0
      replace y1 := hG6.at y1
      replace z0 := hG6.at z0
      replace z1 := hG6.at z1
      replace u0 := hG6.at u0
      replace u1 := hG6.at u1
      go_wp2_with fail
      refine (rSimple_any s t _ HV.out).mono ?_
      rintro e w7 ⟨rfl, hG7⟩
      rw [← hM1.out, ← hM2.out, ← hM3.out]
      replace y0 := hG7.at y0
      replace y1 := hG7.at y1
      replace z0 := hG7.at z0
      replace z1 := hG7.at z1
      replace u0 := hG7.at u0
      replace u1 := hG7.at u1
      go_wp2_with fail
      refine (rIs_any (7 - s) (12 - t) _).mono ?_
      rintro e w8 ⟨rfl, hG8⟩
      rw [decide_eq_true HD.out]
      obtain ⟨⟨_, _⟩, ⟨v0, v1⟩, _, _⟩ := duo2_later hG8
      have g8 : G w7 w8 := G.trans (by (repeat' (first | (with_reducible exact G.refl _) | (with_reducible refine G.drewN ?_ _) | (with_reducible refine G.drew ?_) | (with_reducible refine G.alloc ?_ _)))) hG8
      replace y0 := g8.at y0
      replace y1 := g8.at y1
      replace u0 := g8.at u0
      replace u1 := g8.at u1
      clear z0 z1
      go_wp2_with fail
      refine (iInvert_good (7 - s) (12 - t) _ HD.out HD3.out.1 HD3.out.2.1 HD3.out.2.2).mono ?_
      rintro e w9 ⟨rfl, hG9⟩
      rw [HD2.out.1, HD2.out.2]
      replace y0 := hG9.at y0
      replace y1 := hG9.at y1
      replace u0 := hG9.at u0
      replace u1 := hG9.at u1
      replace v0 := hG9.at v0
      replace v1 := hG9.at v1
      go_wp2_with fail
      go_ret
      exact ⟨by first | rfl | simp, by (repeat' (first | (with_reducible exact G.refl _) | (with_reducible assumption) | (with_reducible refine G.drewN ?_ _) | (with_reducible refine G.drew ?_) | (with_reducible refine G.alloc ?_ _) | (with_reducible refine G.setCell ?_ (by first | (with_reducible exact Nat.le_refl _) | (simp; done) | (simp; omega) | omega) _) | (with_reducible refine G.trans ?_ (by assumption))))⟩
    · have HD := Lib.hid d
      have HN := Lib.hid (show ¬ Sm 7 12 (-s) (-t) from fun k => d k.2)
      have HW := Lib.hid (IntWalk.i64_in (-t) (by omega))
      clear d
      go_enter Tryd.func10, Tryd.ntmps10
      go_wp2_with fail
      refine (iQuality_ok s t _ HV.out (HT.out.later (by (repeat' (first | (with_reducible exact G.refl _) | (with_reducible assumption) | (with_reducible refine G.drewN ?_ _) | (with_reducible refine G.drew ?_) | (with_reducible refine G.alloc ?_ _) | (with_reducible refine G.setCell ?_ (by first | (with_reducible exact Nat.le_refl _) | (simp; done) | (simp; omega) | omega) _) | (with_reducible refine G.trans ?_ (by assumption)))))).hts (HT.out.later (by (repeat' (first | (with_reducible exact G.refl _) | (with_reducible assumption) | (with_reducible refine G.drewN ?_ _) | (with_reducible refine G.drew ?_) | (with_reducible refine G.alloc ?_ _) | (with_reducible refine G.setCell ?_ (by first | (with_reducible exact Nat.le_refl _) | (simp; done) | (simp; omega) | omega) _) | (with_reducible refine G.trans ?_ (by assumption)))))).fam).mono ?_
      rintro e w1 ⟨rfl, hG1⟩
      rw [← hQ1.out, ← hQ2.out]
      obtain ⟨y0, y1⟩ := duo_later hG1
      go_wp2_with fail
      refine (iSimple_ok s t _ HV.out).mono ?_
      rintro e w2 ⟨rfl, hG2⟩
      rw [← hM1.out, ← hM2.out, ← hM3.out]
      replace y0 := hG2.at y0
      replace y1 := hG2.at y1
      go_wp2_with fail
      refine (iInvert_none s t (-t) _ HS.out.1 HS.out.2 HW.out HN.out).mono ?_
      rintro e w3 ⟨rfl, hG3⟩
      obtain ⟨z0, z1⟩ := duo_later hG3
      have g3 : G w2 w3 := G.trans (by (repeat' (first | (with_reducible exact G.refl _) | (with_reducible refine G.drewN ?_ _) | (with_reducible refine G.drew ?_) | (with_reducible refine G.alloc ?_ _)))) hG3
      replace y0 := g3.at y0
      replace y1 := g3.at y1
      go_wp2_with fail
      refine (known_any _ (HT.out.later (by (repeat' (first | (with_reducible exact G.refl _) | (with_reducible assumption) | (with_reducible refine G.drewN ?_ _) | (with_reducible refine G.drew ?_) | (with_reducible refine G.alloc ?_ _) | (with_reducible refine G.setCell ?_ (by first | (with_reducible exact Nat.le_refl _) | (simp; done) | (simp; omega) | omega) _) | (with_reducible refine G.trans ?_ (by assumption))))))).mono ?_
      rintro e w4 ⟨rfl, hG4⟩
      obtain ⟨u0, u1⟩ := duo_later hG4
      have g4 : G w3 w4 := G.trans (by (repeat' (first | (with_reducible exact G.refl _) | (with_reducible refine G.drewN ?_ _) | (with_reducible refine G.drew ?_) | (with_reducible refine G.alloc ?_ _)))) hG4
      replace y0 := g4.at y0
      replace y1 := g4.at y1
      replace z0 := g4.at z0
      replace z1 := g4.at z1
      go_wp2_with fail
      refine (rIs_any s t _).mono ?_
      rintro e w5 ⟨rfl, hG5⟩
      rw [decide_eq_true HV.out]
      replace y0 := hG5.at y0
      replace y1 := hG5.at y1
      replace z0 := hG5.at z0
      replace z1 := hG5.at z1
      replace u0 := hG5.at u0
      replace u1 := hG5.at u1
      go_wp2_with fail
      refine (rQuality_any s t _ HV.out).mono ?_
      rintro e w6 ⟨rfl, hG6⟩
      rw [← hQ1.out, ← hQ2.out]
      replace y0 := hG6.at y0
      replace y1 := hG6.at y1
      replace z0 := hG6.at z0
      replace z1 := hG6.at z1
      replace u0 := hG6.at u0
      replace u1 := hG6.at u1
      go_wp2_with fail
      refine (rSimple_any s t _ HV.out).mono ?_
      rintro e w7 ⟨rfl, hG7⟩
      rw [← hM1.out, ← hM2.out, ← hM3.out]
      replace y0 := hG7.at y0
      replace y1 := hG7.at y1
      replace z0 := hG7.at z0
      replace z1 := hG7.at z1
      replace u0 := hG7.at u0
      replace u1 := hG7.at u1
      go_wp2_with fail
      refine (rIs_any (7 - s) (12 - t) _).mono ?_
      rintro e w8 ⟨rfl, hG8⟩
      rw [decide_eq_false HD.out]
      have g8 : G w7 w8 := G.trans (by (repeat' (first | (with_reducible exact G.refl _) | (with_reducible refine G.drewN ?_ _) | (with_reducible refine G.drew ?_) | (with_reducible refine G.alloc ?_ _)))) hG8
      replace u0 := g8.at u0
      replace u1 := g8.at u1
      clear z0 z1 y0 y1
      go_wp2_with fail
      go_ret
      exact ⟨by first | rfl | simp, by (repeat' (first | (with_reducible exact G.refl _) | (with_reducible assumption) | (with_reducible refine G.drewN ?_ _) | (with_reducible refine G.drew ?_) | (with_reducible refine G.alloc ?_ _) | (with_reducible refine G.setCell ?_ (by first | (with_reducible exact Nat.le_refl _) | (simp; done) | (simp; omega) | omega) _) | (with_reducible refine G.trans ?_ (by assumption))))⟩

theorem qualities_walk (s t : Int) (w : World) (_ : -9223372036854775808 ≤ s) (_ : s ≤ 9223372036854775807) (t0 : -9223372036854775808 ≤ t) (t1 : t ≤ 9223372036854775807) (hT : Tab w) :
    Calls Tryd.prog 10 #[.agg #[.int .i64 s, .int .i64 t]] w fun e w' => e = .returned (.bool true) ∧ G w w' := by
  by_cases h : Iv s t
  · exact qualities_ok s t w h hT
  · exact qualities_bad s t w t0 t1 h hT

/-! ### the row and the card -/
open Go.ChangeShapes Go.WideShapes Go.ChangeAt Go.RowKit
set_option maxRecDepth 100000 in
theorem intervalQualities_lifted (os : Os) (started : os.Started) (H : Type) (enc : TypeId × Value → H) :
    ReturnsInHanded {} Tryd.checked os 10 .any (fun w args => (Rows.intervalQualitiesSpec.pre enc Tryd.prog Tryd.f10 [] false w args ∧ laidMetH Tryd.prog laidL w) ∧ sizedMet enc Tryd.prog Tryd.f10 (OpenSpec.ofChange Rows.intervalQualitiesSpec) false w args)
      (Rows.intervalQualitiesSpec.post enc Tryd.prog Tryd.f10 false true false false) := by
  refine returnsInHanded_of_change_and (C := Tryd.checked) (X := fun w _ => laidMetH Tryd.prog laidL w) (fun _ _ _ hh h => h.of_heap hh) own started (by kernel_rfl) Tryd.func10
    (ChangeSpec.witness_shaped (enc := enc) (C := Tryd.checked) (os := os) (X := fun w _ => laidMetH Tryd.prog laidL w) false (World.laidAll Tryd.prog os laidL) #[.agg #[.int .i64 0, .int .i64 0]] 8 (World.laidAll_os _ _ _) (shapedL os) (by kernel_rfl) (by kernel_rfl) (by kernel_rfl) (laid_met os _)) ?_
  intro W base args ds gs before hval0 hW _ _ hL _
  have hval : ∀ (j : Nat) t v, Tryd.f10.params[j]? = some t → args[j]? = some v → Value.okWide Tryd.prog W .any base t v := hval0
  have hW' := hW
  obtain ⟨p, q, hA0, hV, rfl, hfz, hnd⟩ := hW
  have hA : DataW.TrodAll enc Tryd.prog W 0 (fun _ => true) true Tryd.f10.params.toList args.toList ds p := hA0
  rw [Tryd.params10] at hA hval
  obtain ⟨v0, vs0, d0, ds0, p0, q0, hargs, rfl, rfl, h0, r0⟩ := trodAll_cons hA
  obtain ⟨rfl, rfl, rfl⟩ := trodAll_nil r0
  obtain rfl : args = #[v0] := by cases args; simp_all
  obtain ⟨rfl, rfl⟩ := trodVars_none hV
  obtain ⟨a0, b0, rfl, rfl, rfl, w0, u0⟩ := open_iv (hval 0 23 v0 rfl rfl) h0
  obtain ⟨bl0, bh0⟩ := bounds_i64 w0
  obtain ⟨cl0, ch0⟩ := bounds_i64 u0
  clear hA0 hval0
  simp only [List.append_nil] at hW'
  refine (qualities_walk a0 b0 W bl0 bh0 cl0 ch0  (tab_of_laid hL)).mono fun e W' ⟨he, hg⟩ => ?_
  subst he
  exact ⟨_, rfl, _, _, _, [], [], [], hW', (trodAll_cons_mk (shut_bool Tryd.underlying4 _) trodAll_mk0), (trodAll_cons_mk (shut_iv w0 u0) trodAll_mk0), rfl, Below.frame hg _, fun h => by cases h⟩

theorem intervalQualities_holds : Rows.IntervalQualitiesSaid :=
  OpenClaim.holds_of_wide 10 Tryd.f10 rfl rfl rfl rfl rfl rfl rfl ⟨rfl, rfl, rfl, rfl, rfl⟩ rfl rfl rfl rfl rfl (by kernel_rfl) Tryd.func10 (by kernel_rfl)
    (of_decide_eq_true (by kernel_rfl)) (by unfold Func.isWrapper; first | (rw [if_pos (by decide +kernel)]; kernel_rfl) | (rw [if_neg (by decide +kernel)]; exact ⟨rfl, rfl⟩))
    (fun os started H enc _ => intervalQualities_lifted os started H enc)

theorem intervalQualities_card : Rows.IntervalQualitiesCardSaid :=
  Claim7.holds_tied_plain_at .later [] [.data, .data, .data, .data, .data] true (true, "07eaf8fc6e67b9a0961191b344b017356c7addb51c8f341747d9d4082577b353") false
    intervalQualities_holds (fun _ h => by cases h) (by kernel_rfl) (fun _ h => by cases h) intervalQualities_row_tie rfl ⟨rfl, rfl⟩ (by kernel_rfl) rfl
    (fun f fn hf hfn => by
      obtain rfl : f = 10 := Option.some.inj ((show Tryd.prog.funcNamed "hemiola/hemiolalaw06.IntervalQualities" = some 10 by kernel_rfl).symm.trans hf) |>.symm
      obtain rfl : fn = Tryd.f10 := (Option.some.inj (Tryd.func10.symm.trans hfn)).symm
      exact ⟨by kernel_rfl, fun j t ht => by
        rw [Tryd.params10] at ht
        have hm : t ∈ [23] := by simpa using Array.mem_of_getElem? ht
        have hall : ([23].all fun u => !Tryd.prog.wantsStandIn u) = true := by kernel_rfl
        exact (show Tryd.prog.wantsStandIn t = false by simpa using List.all_eq_true.1 hall t hm)⟩)
    (by kernel_rfl)
#print axioms intervalQualities_card
end Go.Proofs.YtkooggakngheoaaDoor
