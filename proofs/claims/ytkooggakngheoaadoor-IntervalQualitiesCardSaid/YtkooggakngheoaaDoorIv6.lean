import Derived.Test.YtkooggakngheoaaDoorIv5
import Derived.Laws.EntriesVeiled
/-! Intervals: Quality. -/
namespace Go.Proofs.YtkooggakngheoaaDoor
open Go.RowKit
attribute [local go_sem] World.cell?_alloc_some

/-- by how much an interval deviates from the plain one; its quality, and how many times -/
def dv (s t : Int) : Int := ut s t - pln (us s t)
def qQ (s t : Int) : Int := if fm (us s t) = 0 then (if 0 < dv s t then 2 else if dv s t < 0 then -2 else 0) else (if 0 < dv s t then 2 else if dv s t = 0 then 1 else if dv s t = -1 then -1 else -2)
def qT (s t : Int) : Int := if fm (us s t) = 0 then (if 0 < dv s t then dv s t else if dv s t < 0 then -dv s t else 0) else (if 0 < dv s t then dv s t else if dv s t = 0 then 0 else if dv s t = -1 then 0 else -1 - dv s t)
theorem fm_cases (s : Int) : fm s = 0 ∨ fm s = 1 := by unfold fm; split <;> simp

set_option maxHeartbeats 1600000 in
theorem iQuality_bad (s t : Int) (w : World) (h : ¬ Iv s t) :
    Calls Tryd.prog 30 #[.agg #[.int .i64 s, .int .i64 t]] w fun e w' => e = .returned (.tuple #[.int .i64 0, .int .i64 0, .int .i64 2]) ∧ G w w' := by
  have HV := Lib.hid h
  clear h
  go_enter Tryd.func30, Tryd.ntmps30
  go_wp2_with fail
  refine (iCheck_any s t _).mono ?_
  rintro e w1 ⟨rfl, hG⟩
  rw [ie_bad HV.out]
  go_wp2_with fail
  go_returns
  exact ⟨rfl, by (repeat' (first | (with_reducible exact G.refl _) | (with_reducible assumption) | (with_reducible refine G.drewN ?_ _) | (with_reducible refine G.drew ?_) | (with_reducible refine G.alloc ?_ _) | (with_reducible refine G.setCell ?_ (by first | (with_reducible exact Nat.le_refl _) | (simp; done) | (simp; omega) | omega) _) | (with_reducible refine G.trans ?_ (by assumption))))⟩

set_option maxRecDepth 20000 in
set_option maxHeartbeats 1600000 in
theorem iQuality_ok (s t : Int) (w : World) (h : Iv s t) (hT : Hts w) (hF : Fam w) :
    Calls Tryd.prog 30 #[.agg #[.int .i64 s, .int .i64 t]] w fun e w' => e = .returned (.tuple #[.int .i64 (qQ s t), .int .i64 (qT s t), .int .i64 0]) ∧ G w w' := by
  have HV := Lib.hid h
  have HT := Lib.hid (And.intro hT hF)
  obtain ⟨⟨u0, u1⟩, v0, v1⟩ := up_bd h
  have pb := pln_bd u0 u1
  obtain ⟨R, hR⟩ : ∃ z : Value, Hid (z = .tuple #[.int .i64 (qQ s t), .int .i64 (qT s t), .int .i64 0]) := ⟨_, rfl⟩
  rw [← hR.out]
  obtain ⟨u, hu⟩ : ∃ z : Int, Hid (z = us s t) := ⟨_, rfl⟩
  obtain ⟨v, hv⟩ : ∃ z : Int, Hid (z = ut s t) := ⟨_, rfl⟩
  obtain ⟨p, hp⟩ : ∃ z : Int, Hid (z = pln u) := ⟨_, rfl⟩
  rw [← hu.out] at u0 u1 pb
  rw [← hv.out] at v0 v1
  rw [← hp.out] at pb
  have q1 := IntWalk.i64_in (v - p) (by omega)
  clear hT hF h
  go_enter Tryd.func30, Tryd.ntmps30
  go_wp2_with fail
  refine (iCheck_any s t _).mono ?_
  rintro e w1 ⟨rfl, hG⟩
  rw [ie_ok HV.out]
  obtain ⟨y0, y1⟩ := duo_later hG
  go_wp2_with fail
  refine (upward_any s t _ HV.out).mono ?_
  rintro e w2 ⟨rfl, hG2⟩
  rw [← hu.out, ← hv.out]
  clear y0 y1
  have gw2 : G w w2 := by (repeat' (first | (with_reducible exact G.refl _) | (with_reducible assumption) | (with_reducible refine G.drewN ?_ _) | (with_reducible refine G.drew ?_) | (with_reducible refine G.alloc ?_ _) | (with_reducible refine G.setCell ?_ (by first | (with_reducible exact Nat.le_refl _) | (simp; done) | (simp; omega) | omega) _) | (with_reducible refine G.trans ?_ (by assumption))))
  have gb : G ((w2.alloc (.cells #[.int .i64 u, .int .i64 v] 23)).alloc (.cells #[.func (.func 53) #[] #[], .func (.func 54) #[] #[]] 78)) ((w2.alloc (.cells #[.int .i64 u, .int .i64 v] 23)).alloc (.cells #[.func (.func 53) #[] #[], .func (.func 54) #[] #[]] 78)) := G.refl _
  have gw : G w2 ((w2.alloc (.cells #[.int .i64 u, .int .i64 v] 23)).alloc (.cells #[.func (.func 53) #[] #[], .func (.func 54) #[] #[]] 78)) := by (repeat' (first | (with_reducible exact G.refl _) | (with_reducible refine G.drewN ?_ _) | (with_reducible refine G.drew ?_) | (with_reducible refine G.alloc ?_ _)))
  go_wp2_with fail
  rcases fm_cases u with hf | hf
  · obtain ⟨k, hk⟩ : ∃ z : Int, Hid (z = if 0 < v - p then 2 else if v - p < 0 then -2 else 0) := ⟨_, rfl⟩
    obtain ⟨l, hl⟩ : ∃ z : Int, Hid (z = if 0 < v - p then v - p else if v - p < 0 then -(v - p) else 0) := ⟨_, rfl⟩
    have HR := Lib.hid (show R = .tuple #[.int .i64 k, .int .i64 l, .int .i64 0] by
      rw [hR.out]; unfold qQ qT dv
      rw [← hu.out, ← hv.out, ← hp.out, hk.out, hl.out, if_pos hf, if_pos hf])
    have HF := Lib.hid hf
    clear hf
    go_region_held3 (fun w' => w'.cell? ⟨w2.heap.size, 0, none⟩ = some (.int .i64 u) ∧ w'.cell? ⟨w2.heap.size, 1, none⟩ = some (.int .i64 v) ∧ w'.cell? ⟨w2.heap.size + 1, 0, none⟩ = some (.func (.func 53) #[] #[]) ∧ w'.cell? ⟨w2.heap.size + 1, 1, none⟩ = some (.func (.func 54) #[] #[]))
      (first | (with_reducible assumption) | ((try dsimp only); (repeat' (with_reducible apply And.intro)) <;> go_simp))
      (first | (go_at_call 55; refine (family_any u _ u0 u1 (HT.out.2.later (by (repeat' (first | (with_reducible exact G.refl _) | (with_reducible assumption) | (with_reducible refine G.drewN ?_ _) | (with_reducible refine G.drew ?_) | (with_reducible refine G.alloc ?_ _) | (with_reducible refine G.setCell ?_ (by first | (with_reducible exact Nat.le_refl _) | (simp; done) | (simp; omega) | omega) _) | (with_reducible refine G.trans ?_ (by assumption))))))).mono ?_; rintro e w9 ⟨rfl, hG9⟩; rw [HF.out]; have gq := gb.trans (G.trans (by (repeat' (first | (with_reducible exact G.refl _) | (with_reducible refine G.drewN ?_ _) | (with_reducible refine G.drew ?_) | (with_reducible refine G.alloc ?_ _)))) hG9); clear gb; have gb := gq; obtain ⟨⟨z0, z1⟩, ⟨z2, z3⟩, _, _⟩ := duo2_later gb) | (go_at_call 56; refine (plain_any u _ u0 u1 (HT.out.1.later (by (repeat' (first | (with_reducible exact G.refl _) | (with_reducible assumption) | (with_reducible refine G.drewN ?_ _) | (with_reducible refine G.drew ?_) | (with_reducible refine G.alloc ?_ _) | (with_reducible refine G.setCell ?_ (by first | (with_reducible exact Nat.le_refl _) | (simp; done) | (simp; omega) | omega) _) | (with_reducible refine G.trans ?_ (by assumption))))))).mono ?_; rintro e w9 ⟨rfl, hG9⟩; rw [← hp.out]; have gq := gb.trans (G.trans (by (repeat' (first | (with_reducible exact G.refl _) | (with_reducible refine G.drewN ?_ _) | (with_reducible refine G.drew ?_) | (with_reducible refine G.alloc ?_ _)))) hG9); clear gb; have gb := gq; obtain ⟨⟨z0, z1⟩, ⟨z2, z3⟩, _, _⟩ := duo2_later gb) | (go_at_call 53; refine (ofPerfect_any (v - p) _ (by omega) (by omega)).mono ?_; rintro e w9 ⟨rfl, hG9⟩; rw [← hk.out, ← hl.out]; have gq := gb.trans (G.trans (by (repeat' (first | (with_reducible exact G.refl _) | (with_reducible refine G.drewN ?_ _) | (with_reducible refine G.drew ?_) | (with_reducible refine G.alloc ?_ _)))) hG9); clear gb; have gb := gq; obtain ⟨⟨z0, z1⟩, ⟨z2, z3⟩, _, _⟩ := duo2_later gb))
    all_goals
      go_wp2_with fail
      go_returns
      refine ⟨?_, by (repeat' (first | (with_reducible exact G.refl _) | (with_reducible assumption) | (with_reducible refine G.drewN ?_ _) | (with_reducible refine G.drew ?_) | (with_reducible refine G.alloc ?_ _) | (with_reducible refine G.setCell ?_ (by first | (with_reducible exact Nat.le_refl _) | (simp; done) | (simp; omega) | omega) _) | (with_reducible refine G.trans ?_ (by assumption))))⟩
      rw [HR.out]; rfl
  · have hne : ¬ fm u = 0 := by rw [hf]; decide
    obtain ⟨k, hk⟩ : ∃ z : Int, Hid (z = if 0 < v - p then 2 else if v - p = 0 then 1 else if v - p = -1 then -1 else -2) := ⟨_, rfl⟩
    obtain ⟨l, hl⟩ : ∃ z : Int, Hid (z = if 0 < v - p then v - p else if v - p = 0 then 0 else if v - p = -1 then 0 else -1 - (v - p)) := ⟨_, rfl⟩
    have HR := Lib.hid (show R = .tuple #[.int .i64 k, .int .i64 l, .int .i64 0] by
      rw [hR.out]; unfold qQ qT dv
      rw [← hu.out, ← hv.out, ← hp.out, hk.out, hl.out, if_neg hne, if_neg hne])
    have HF := Lib.hid hf
    clear hf
    go_region_held3 (fun w' => w'.cell? ⟨w2.heap.size, 0, none⟩ = some (.int .i64 u) ∧ w'.cell? ⟨w2.heap.size, 1, none⟩ = some (.int .i64 v) ∧ w'.cell? ⟨w2.heap.size + 1, 0, none⟩ = some (.func (.func 53) #[] #[]) ∧ w'.cell? ⟨w2.heap.size + 1, 1, none⟩ = some (.func (.func 54) #[] #[]))
      (first | (with_reducible assumption) | ((try dsimp only); (repeat' (with_reducible apply And.intro)) <;> go_simp))
      (first | (go_at_call 55; refine (family_any u _ u0 u1 (HT.out.2.later (by (repeat' (first | (with_reducible exact G.refl _) | (with_reducible assumption) | (with_reducible refine G.drewN ?_ _) | (with_reducible refine G.drew ?_) | (with_reducible refine G.alloc ?_ _) | (with_reducible refine G.setCell ?_ (by first | (with_reducible exact Nat.le_refl _) | (simp; done) | (simp; omega) | omega) _) | (with_reducible refine G.trans ?_ (by assumption))))))).mono ?_; rintro e w9 ⟨rfl, hG9⟩; rw [HF.out]; have gq := gb.trans (G.trans (by (repeat' (first | (with_reducible exact G.refl _) | (with_reducible refine G.drewN ?_ _) | (with_reducible refine G.drew ?_) | (with_reducible refine G.alloc ?_ _)))) hG9); clear gb; have gb := gq; obtain ⟨⟨z0, z1⟩, ⟨z2, z3⟩, _, _⟩ := duo2_later gb) | (go_at_call 56; refine (plain_any u _ u0 u1 (HT.out.1.later (by (repeat' (first | (with_reducible exact G.refl _) | (with_reducible assumption) | (with_reducible refine G.drewN ?_ _) | (with_reducible refine G.drew ?_) | (with_reducible refine G.alloc ?_ _) | (with_reducible refine G.setCell ?_ (by first | (with_reducible exact Nat.le_refl _) | (simp; done) | (simp; omega) | omega) _) | (with_reducible refine G.trans ?_ (by assumption))))))).mono ?_; rintro e w9 ⟨rfl, hG9⟩; rw [← hp.out]; have gq := gb.trans (G.trans (by (repeat' (first | (with_reducible exact G.refl _) | (with_reducible refine G.drewN ?_ _) | (with_reducible refine G.drew ?_) | (with_reducible refine G.alloc ?_ _)))) hG9); clear gb; have gb := gq; obtain ⟨⟨z0, z1⟩, ⟨z2, z3⟩, _, _⟩ := duo2_later gb) | (go_at_call 54; refine (ofMajor_any (v - p) _ (by omega) (by omega)).mono ?_; rintro e w9 ⟨rfl, hG9⟩; rw [← hk.out, ← hl.out]; have gq := gb.trans (G.trans (by (repeat' (first | (with_reducible exact G.refl _) | (with_reducible refine G.drewN ?_ _) | (with_reducible refine G.drew ?_) | (with_reducible refine G.alloc ?_ _)))) hG9); clear gb; have gb := gq; obtain ⟨⟨z0, z1⟩, ⟨z2, z3⟩, _, _⟩ := duo2_later gb))
    all_goals
      go_wp2_with fail
      go_returns
      refine ⟨?_, by (repeat' (first | (with_reducible exact G.refl _) | (with_reducible assumption) | (with_reducible refine G.drewN ?_ _) | (with_reducible refine G.drew ?_) | (with_reducible refine G.alloc ?_ _) | (with_reducible refine G.setCell ?_ (by first | (with_reducible exact Nat.le_refl _) | (simp; done) | (simp; omega) | omega) _) | (with_reducible refine G.trans ?_ (by assumption))))⟩
      rw [HR.out]; rfl
end Go.Proofs.YtkooggakngheoaaDoor
