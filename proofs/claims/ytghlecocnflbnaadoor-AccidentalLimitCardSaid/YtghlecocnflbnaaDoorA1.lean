import Derived.Test.YtghlecocnflbnaaDoorBase
/-! Accidentals: the smallest functions. -/
namespace Go.Proofs.YtghlecocnflbnaaDoor
open Go.RowKit
attribute [local go_sem] World.cell?_alloc_some

theorem index_any (s o : Int) (w : World) (h : POk s o) : Calls Tryd.prog 33 #[.int .i64 s, .int .i64 o] w fun e w' => e = .returned (.int .i64 (ix s o)) ∧ w = w' := by
  obtain ⟨⟨h0, h1⟩, h2, h3⟩ := h
  have q1 := IntWalk.i64_in (o - -1) (by omega)
  have q2 := IntWalk.i64_in (7 * (o - -1)) (by omega)
  have q3 := IntWalk.i64_in (7 * (o - -1) + s) (by omega)
  have HE := Lib.hid (show 7 * (o - -1) + s = ix s o by unfold ix; omega)
  go_enter Tryd.func33, Tryd.ntmps33
  go_wp2_with fail
  go_ret
  exact ⟨ret_int HE.out, rfl⟩

set_option maxHeartbeats 800000 in
theorem isAlter_any (a : Int) (w : World) : Calls Tryd.prog 34 #[.int .i64 a] w fun e w' => e = .returned (.bool (decide (AOk a))) ∧ w = w' := by
  by_cases h1 : a < -2
  · rw [decide_eq_false (by unfold AOk; omega)]
    go_enter Tryd.func34, Tryd.ntmps34
    go_wp2
    go_ret
    exact ⟨rfl, rfl⟩
  by_cases h2 : a ≤ 2
  · rw [decide_eq_true (by unfold AOk; omega)]
    go_enter Tryd.func34, Tryd.ntmps34
    go_wp2
    go_ret
    exact ⟨rfl, rfl⟩
  · rw [decide_eq_false (by unfold AOk; omega)]
    go_enter Tryd.func34, Tryd.ntmps34
    go_wp2
    go_ret
    exact ⟨rfl, rfl⟩

set_option maxHeartbeats 1600000 in
theorem isPosition_any (s o : Int) (w : World) : Calls Tryd.prog 42 #[.int .i64 s, .int .i64 o] w fun e w' => e = .returned (.bool (decide (POk s o))) ∧ w = w' := by
  by_cases h1 : s < 0
  · rw [decide_eq_false (by unfold POk; omega)]
    go_enter Tryd.func42, Tryd.ntmps42
    go_wp2
    go_ret
    exact ⟨rfl, rfl⟩
  by_cases h2 : 7 ≤ s
  · rw [decide_eq_false (by unfold POk; omega)]
    go_enter Tryd.func42, Tryd.ntmps42
    go_wp2
    go_ret
    exact ⟨rfl, rfl⟩
  by_cases h3 : o < -1
  · rw [decide_eq_false (by unfold POk; omega)]
    go_enter Tryd.func42, Tryd.ntmps42
    go_wp2
    go_ret
    exact ⟨rfl, rfl⟩
  by_cases h4 : o ≤ 9
  · rw [decide_eq_true (by unfold POk; omega)]
    go_enter Tryd.func42, Tryd.ntmps42
    go_wp2
    go_ret
    exact ⟨rfl, rfl⟩
  · rw [decide_eq_false (by unfold POk; omega)]
    go_enter Tryd.func42, Tryd.ntmps42
    go_wp2
    go_ret
    exact ⟨rfl, rfl⟩

/-- the error of a key and a length -/
def ckH (f : Int) (n : Nat) : Int := if Sg f then (if n ≤ 2560 then 0 else 9) else 2
set_option maxHeartbeats 800000 in
theorem aCheck_any (f : Int) (n : Nat) (w : World) : Calls Tryd.prog 35 #[.int .i64 f, .int .i64 n] w fun e w' => e = .returned (.int .i64 (ckH f n)) ∧ w = w' := by

  by_cases h : Sg f
  · have HS := Lib.hid h
    by_cases k : n ≤ 2560
    · have HV := Lib.hid (show ckH f n = 0 by unfold ckH; rw [if_pos h, if_pos k])
      rw [HV.out]
      have k2 : ¬ (2560 < (n : Int)) := by omega
      clear h HV
      go_enter Tryd.func35, Tryd.ntmps35
      go_wp2_with fail
      refine (Check_any f _).mono ?_
      rintro e w1 ⟨rfl, rfl⟩
      rw [ck_ok HS.out]
      go_wp2_with fail
      go_ret
      exact ⟨rfl, rfl⟩
    · have HV := Lib.hid (show ckH f n = 9 by unfold ckH; rw [if_pos h, if_neg k])
      rw [HV.out]
      have k2 : (2560 < (n : Int)) := by omega
      clear h HV
      go_enter Tryd.func35, Tryd.ntmps35
      go_wp2_with fail
      refine (Check_any f _).mono ?_
      rintro e w1 ⟨rfl, rfl⟩
      rw [ck_ok HS.out]
      go_wp2_with fail
      go_ret
      exact ⟨rfl, rfl⟩
  · have HS := Lib.hid h
    have HV := Lib.hid (show ckH f n = 2 by unfold ckH; rw [if_neg h])
    rw [HV.out]
    clear h HV
    go_enter Tryd.func35, Tryd.ntmps35
    go_wp2_with fail
    refine (Check_any f _).mono ?_
    rintro e w1 ⟨rfl, rfl⟩
    rw [ck_bad HS.out]
    go_wp2_with fail
    go_ret
    exact ⟨rfl, rfl⟩

set_option maxHeartbeats 3200000 in
theorem nCheck_any (t s a o : Int) (h : Bool) (d b : Int) (w : World) : Calls Tryd.prog 36 #[.agg #[.int .i64 t, .int .i64 s, .int .i64 a, .int .i64 o, .bool h, .int .i64 d], .int .i64 b] w fun e w' => e = .returned (.int .i64 (ckN b ⟨t, s, a, o, h, d⟩)) ∧ G w w' := by
  by_cases h1 : t < b
  · have HV := Lib.hid (show ckN b ⟨t, s, a, o, h, d⟩ = 25 from if_pos h1)
    rw [HV.out]
    go_enter Tryd.func36, Tryd.ntmps36
    go_wp2_with fail
    go_ret
    exact ⟨rfl, by (repeat' (first | (with_reducible exact G.refl _) | (with_reducible assumption) | (with_reducible refine G.drewN ?_ _) | (with_reducible refine G.drew ?_) | (with_reducible refine G.alloc ?_ _) | (with_reducible refine G.setCell ?_ (by first | (with_reducible exact Nat.le_refl _) | (simp; done) | (simp; omega) | omega) _) | (with_reducible refine G.trans ?_ (by assumption))))⟩
  by_cases h2 : POk s o
  · have H2 := Lib.hid (decide_eq_true h2)
    by_cases h3 : AOk a
    · have H3 := Lib.hid (decide_eq_true h3)
      by_cases h4 : d < 0
      · have HV := Lib.hid (show ckN b ⟨t, s, a, o, h, d⟩ = 11 from (if_neg h1).trans ((if_pos ⟨h2, h3⟩).trans (if_neg (by show ¬ (0 ≤ d ∧ d ≤ 2); omega))))
        rw [HV.out]
        clear h2 h3 HV
        go_enter Tryd.func36, Tryd.ntmps36
        go_wp2_with fail
        refine (isPosition_any _ _ _).mono ?_
        rintro e w1 ⟨rfl, rfl⟩
        rw [H2.out]
        go_wp2_with fail
        refine (isAlter_any _ _).mono ?_
        rintro e w1 ⟨rfl, rfl⟩
        rw [H3.out]
        go_wp2_with fail
        go_ret
        exact ⟨rfl, by (repeat' (first | (with_reducible exact G.refl _) | (with_reducible assumption) | (with_reducible refine G.drewN ?_ _) | (with_reducible refine G.drew ?_) | (with_reducible refine G.alloc ?_ _) | (with_reducible refine G.setCell ?_ (by first | (with_reducible exact Nat.le_refl _) | (simp; done) | (simp; omega) | omega) _) | (with_reducible refine G.trans ?_ (by assumption))))⟩
      by_cases h5 : d ≤ 2
      · have HV := Lib.hid (show ckN b ⟨t, s, a, o, h, d⟩ = 0 from (if_neg h1).trans ((if_pos ⟨h2, h3⟩).trans (if_pos (by show 0 ≤ d ∧ d ≤ 2; omega))))
        rw [HV.out]
        clear h2 h3 HV
        go_enter Tryd.func36, Tryd.ntmps36
        go_wp2_with fail
        refine (isPosition_any _ _ _).mono ?_
        rintro e w1 ⟨rfl, rfl⟩
        rw [H2.out]
        go_wp2_with fail
        refine (isAlter_any _ _).mono ?_
        rintro e w1 ⟨rfl, rfl⟩
        rw [H3.out]
        go_wp2_with fail
        go_ret
        exact ⟨rfl, by (repeat' (first | (with_reducible exact G.refl _) | (with_reducible assumption) | (with_reducible refine G.drewN ?_ _) | (with_reducible refine G.drew ?_) | (with_reducible refine G.alloc ?_ _) | (with_reducible refine G.setCell ?_ (by first | (with_reducible exact Nat.le_refl _) | (simp; done) | (simp; omega) | omega) _) | (with_reducible refine G.trans ?_ (by assumption))))⟩
      · have HV := Lib.hid (show ckN b ⟨t, s, a, o, h, d⟩ = 11 from (if_neg h1).trans ((if_pos ⟨h2, h3⟩).trans (if_neg (by show ¬ (0 ≤ d ∧ d ≤ 2); omega))))
        rw [HV.out]
        clear h2 h3 HV
        go_enter Tryd.func36, Tryd.ntmps36
        go_wp2_with fail
        refine (isPosition_any _ _ _).mono ?_
        rintro e w1 ⟨rfl, rfl⟩
        rw [H2.out]
        go_wp2_with fail
        refine (isAlter_any _ _).mono ?_
        rintro e w1 ⟨rfl, rfl⟩
        rw [H3.out]
        go_wp2_with fail
        go_ret
        exact ⟨rfl, by (repeat' (first | (with_reducible exact G.refl _) | (with_reducible assumption) | (with_reducible refine G.drewN ?_ _) | (with_reducible refine G.drew ?_) | (with_reducible refine G.alloc ?_ _) | (with_reducible refine G.setCell ?_ (by first | (with_reducible exact Nat.le_refl _) | (simp; done) | (simp; omega) | omega) _) | (with_reducible refine G.trans ?_ (by assumption))))⟩
    · have H3 := Lib.hid (decide_eq_false h3)
      have HV := Lib.hid (show ckN b ⟨t, s, a, o, h, d⟩ = 18 from (if_neg h1).trans (if_neg (fun k => h3 k.2)))
      rw [HV.out]
      clear h2 h3 HV
      go_enter Tryd.func36, Tryd.ntmps36
      go_wp2_with fail
      refine (isPosition_any _ _ _).mono ?_
      rintro e w1 ⟨rfl, rfl⟩
      rw [H2.out]
      go_wp2_with fail
      refine (isAlter_any _ _).mono ?_
      rintro e w1 ⟨rfl, rfl⟩
      rw [H3.out]
      go_wp2_with fail
      go_ret
      exact ⟨rfl, by (repeat' (first | (with_reducible exact G.refl _) | (with_reducible assumption) | (with_reducible refine G.drewN ?_ _) | (with_reducible refine G.drew ?_) | (with_reducible refine G.alloc ?_ _) | (with_reducible refine G.setCell ?_ (by first | (with_reducible exact Nat.le_refl _) | (simp; done) | (simp; omega) | omega) _) | (with_reducible refine G.trans ?_ (by assumption))))⟩
  · have H2 := Lib.hid (decide_eq_false h2)
    have HV := Lib.hid (show ckN b ⟨t, s, a, o, h, d⟩ = 18 from (if_neg h1).trans (if_neg (fun k => h2 k.1)))
    rw [HV.out]
    clear h2 HV
    go_enter Tryd.func36, Tryd.ntmps36
    go_wp2_with fail
    refine (isPosition_any _ _ _).mono ?_
    rintro e w1 ⟨rfl, rfl⟩
    rw [H2.out]
    go_wp2_with fail
    go_ret
    exact ⟨rfl, by (repeat' (first | (with_reducible exact G.refl _) | (with_reducible assumption) | (with_reducible refine G.drewN ?_ _) | (with_reducible refine G.drew ?_) | (with_reducible refine G.alloc ?_ _) | (with_reducible refine G.setCell ?_ (by first | (with_reducible exact Nat.le_refl _) | (simp; done) | (simp; omega) | omega) _) | (with_reducible refine G.trans ?_ (by assumption))))⟩

set_option maxHeartbeats 3200000 in
theorem mark_any (t s a o : Int) (h : Bool) (d : Int) (c : Bool) (w : World) (ha : AOk a) : Calls Tryd.prog 38 #[.agg #[.int .i64 t, .int .i64 s, .int .i64 a, .int .i64 o, .bool h, .int .i64 d], .bool c] w fun e w' => e = .returned (.agg #[.int .i64 (mK c ⟨t, s, a, o, h, d⟩), .bool (mP c ⟨t, s, a, o, h, d⟩)]) ∧ G w w' := by
  obtain ⟨a0, a1⟩ := ha
  have q := IntWalk.i64_in (a + 3) (by omega)
  cases c
  · by_cases h1 : d = 0
    · have HV := Lib.hid (show mK false ⟨t, s, a, o, h, d⟩ = 0 ∧ mP false ⟨t, s, a, o, h, d⟩ = false from ⟨if_pos ⟨rfl, h1⟩, by unfold mP; dsimp only; rw [h1]; rfl⟩)
      rw [HV.out.1, HV.out.2]
      subst h1
      clear HV
      go_enter Tryd.func38, Tryd.ntmps38
      go_wp2_with fail
      go_returns
      exact ⟨rfl, by (repeat' (first | (with_reducible exact G.refl _) | (with_reducible assumption) | (with_reducible refine G.drewN ?_ _) | (with_reducible refine G.drew ?_) | (with_reducible refine G.alloc ?_ _) | (with_reducible refine G.setCell ?_ (by first | (with_reducible exact Nat.le_refl _) | (simp; done) | (simp; omega) | omega) _) | (with_reducible refine G.trans ?_ (by assumption))))⟩
    · have hb : (d == 0) = false := beq_false_of_ne h1
      by_cases h2 : d = 2
      · have HV := Lib.hid (show mK false ⟨t, s, a, o, h, d⟩ = a + 3 ∧ mP false ⟨t, s, a, o, h, d⟩ = true from ⟨if_neg (fun k => h1 k.2), by unfold mP; dsimp only; rw [h2]; rfl⟩)
        rw [HV.out.1, HV.out.2]
        subst h2
        clear HV
        go_enter Tryd.func38, Tryd.ntmps38
        go_wp2_with fail
        go_returns
        exact ⟨rfl, by (repeat' (first | (with_reducible exact G.refl _) | (with_reducible assumption) | (with_reducible refine G.drewN ?_ _) | (with_reducible refine G.drew ?_) | (with_reducible refine G.alloc ?_ _) | (with_reducible refine G.setCell ?_ (by first | (with_reducible exact Nat.le_refl _) | (simp; done) | (simp; omega) | omega) _) | (with_reducible refine G.trans ?_ (by assumption))))⟩
      · have hb2 : (d == 2) = false := beq_false_of_ne h2
        have HV := Lib.hid (show mK false ⟨t, s, a, o, h, d⟩ = a + 3 ∧ mP false ⟨t, s, a, o, h, d⟩ = false from ⟨if_neg (fun k => h1 k.2), by unfold mP; dsimp only; rw [decide_eq_false h2]; rfl⟩)
        rw [HV.out.1, HV.out.2]
        clear HV h1 h2
        go_enter Tryd.func38, Tryd.ntmps38
        go_wp2_with fail
        go_returns
        exact ⟨rfl, by (repeat' (first | (with_reducible exact G.refl _) | (with_reducible assumption) | (with_reducible refine G.drewN ?_ _) | (with_reducible refine G.drew ?_) | (with_reducible refine G.alloc ?_ _) | (with_reducible refine G.setCell ?_ (by first | (with_reducible exact Nat.le_refl _) | (simp; done) | (simp; omega) | omega) _) | (with_reducible refine G.trans ?_ (by assumption))))⟩
  · have HV := Lib.hid (show mK true ⟨t, s, a, o, h, d⟩ = a + 3 ∧ mP true ⟨t, s, a, o, h, d⟩ = false from ⟨if_neg (fun k => by cases k.1), rfl⟩)
    rw [HV.out.1, HV.out.2]
    clear HV
    go_enter Tryd.func38, Tryd.ntmps38
    go_wp2_with fail
    go_returns
    exact ⟨rfl, by (repeat' (first | (with_reducible exact G.refl _) | (with_reducible assumption) | (with_reducible refine G.drewN ?_ _) | (with_reducible refine G.drew ?_) | (with_reducible refine G.alloc ?_ _) | (with_reducible refine G.setCell ?_ (by first | (with_reducible exact Nat.le_refl _) | (simp; done) | (simp; omega) | omega) _) | (with_reducible refine G.trans ?_ (by assumption))))⟩
end Go.Proofs.YtghlecocnflbnaaDoor
