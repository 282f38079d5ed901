import Derived.Test.YthengbhokamhbaaDoorBase
/-! Of of the program and of the reference: the fraction in lowest terms, or the error. -/
namespace Go.Proofs.YthengbhokamhbaaDoor
open Go.RowKit QM

set_option maxHeartbeats 400000 in
theorem Of_zero (n : Int) (w : World) :
    Calls Tryd.prog 9 #[.int .i64 n, .int .i64 0] w fun e w' => e = .returned (.tuple #[.agg #[.int .i64 0, .int .i64 0], .int .i64 15]) ∧ G w w' := by
  go_enter Tryd.func9, Tryd.ntmps9
  go_wp2
  go_returns
  exact ⟨rfl, by (repeat' (first | (with_reducible exact G.refl _) | (with_reducible assumption) | (with_reducible refine G.drewN ?_ _) | (with_reducible refine G.drew ?_) | (with_reducible refine G.alloc ?_ _) | (with_reducible refine G.setCell ?_ (by first | (with_reducible exact Nat.le_refl _) | (simp; done) | (simp; omega) | omega) _) | (with_reducible refine G.trans ?_ (by assumption))))⟩

/-- what Of comes to where the quotients are a and b -/
theorem o_bad_of {n d : Int} {a b : Nat} (hd : (d == 0) = false) (ha : n.natAbs / gc n d = a) (hb : d.natAbs / gc n d = b) (h : 1073741824 < a ∨ 1073741824 < b) :
    oN n d = 0 ∧ oD n d = 1 ∧ oE n d = 14 := by
  have hd' : d ≠ 0 := by simpa using hd
  have e : oE n d = 14 := by unfold oE; rw [if_neg hd', ha, hb, if_pos h]
  obtain ⟨x, y⟩ := @o_bad n d (by omega)
  exact ⟨x, y, e⟩
theorem o_good_of {n d : Int} {a b : Nat} (hd : (d == 0) = false) (ha : n.natAbs / gc n d = a) (hb : d.natAbs / gc n d = b) (h1 : a ≤ 1073741824) (h2 : b ≤ 1073741824) :
    oN n d = (if (n < 0) = (d < 0) then (a : Int) else -(a : Int)) ∧ oD n d = b ∧ oE n d = 0 := by
  have hd' : d ≠ 0 := by simpa using hd
  have e : oE n d = 0 := by unfold oE; rw [if_neg hd', ha, hb, if_neg (by omega)]
  refine ⟨?_, ?_, e⟩
  · unfold oN; rw [if_pos e, ha]
  · unfold oD; rw [if_pos e, hb]
theorem ret_of {a b c a' b' c' : Int} (h1 : a' = a) (h2 : b' = b) (h3 : c' = c) : Ending.returned (.tuple #[.agg #[.int .i64 a, .int .i64 b], .int .i64 c]) = .returned (.tuple #[.agg #[.int .i64 a', .int .i64 b'], .int .i64 c']) := by rw [h1, h2, h3]

set_option maxHeartbeats 800000 in
theorem Of_pos (n d : Int) (w : World) (h1 : -9223372036854775808 ≤ n) (h2 : n ≤ 9223372036854775807) (h3 : -9223372036854775808 ≤ d) (h4 : d ≤ 9223372036854775807) (hd : (d == 0) = false) :
    Calls Tryd.prog 9 #[.int .i64 n, .int .i64 d] w fun e w' => e = .returned (.tuple #[.agg #[.int .i64 (oN n d), .int .i64 (oD n d - 1)], .int .i64 (oE n d)]) ∧ G w w' := by
  go_enter Tryd.func9, Tryd.ntmps9
  go_wp2_with fail
  refine (magnitude_any n _ h1 h2).mono ?_
  rintro e w1 ⟨rfl, rfl⟩
  go_wp2_with fail
  refine (magnitude_any d _ h3 h4).mono ?_
  rintro e w1 ⟨rfl, rfl⟩
  go_wp2_with fail
  refine (divisor_any n.natAbs d.natAbs _ (by omega) (by omega)).mono ?_
  rintro e w1 ⟨rfl, kd, rfl⟩
  rw [show Nat.gcd n.natAbs d.natAbs = gc n d from rfl]
  have hp : 0 < gc n d := gc_pos (by simpa using hd)
  have hq : 1 ≤ d.natAbs / gc n d := dq_pos (by simpa using hd)
  go_wp2_with fail
  go_quiet (fail)
  rw [← Int.natCast_ediv, ← Int.natCast_ediv]
  have za : n.natAbs / gc n d ≤ 9223372036854775808 := Nat.le_trans (Nat.div_le_self _ _) (by omega)
  have zb : d.natAbs / gc n d ≤ 9223372036854775808 := Nat.le_trans (Nat.div_le_self _ _) (by omega)
  have B := @o_bad_of n d (n.natAbs / gc n d) (d.natAbs / gc n d) hd rfl rfl
  have K := @o_good_of n d (n.natAbs / gc n d) (d.natAbs / gc n d) hd rfl rfl
  generalize n.natAbs / gc n d = a at *
  generalize d.natAbs / gc n d = b at *
  have HB := Lib.hid B; clear B
  have HK := Lib.hid K; clear K
  by_cases c1 : 1073741824 < a
  · go_wp2
    go_returns
    obtain ⟨r1, r2, r3⟩ := HB.out (Or.inl c1)
    exact ⟨ret_of r1 (by omega) r3, by (repeat' (first | (with_reducible exact G.refl _) | (with_reducible assumption) | (with_reducible refine G.drewN ?_ _) | (with_reducible refine G.drew ?_) | (with_reducible refine G.alloc ?_ _) | (with_reducible refine G.setCell ?_ (by first | (with_reducible exact Nat.le_refl _) | (simp; done) | (simp; omega) | omega) _) | (with_reducible refine G.trans ?_ (by assumption))))⟩
  by_cases c2 : 1073741824 < b
  · go_wp2
    go_returns
    obtain ⟨r1, r2, r3⟩ := HB.out (Or.inr c2)
    exact ⟨ret_of r1 (by omega) r3, by (repeat' (first | (with_reducible exact G.refl _) | (with_reducible assumption) | (with_reducible refine G.drewN ?_ _) | (with_reducible refine G.drew ?_) | (with_reducible refine G.alloc ?_ _) | (with_reducible refine G.setCell ?_ (by first | (with_reducible exact Nat.le_refl _) | (simp; done) | (simp; omega) | omega) _) | (with_reducible refine G.trans ?_ (by assumption))))⟩
  by_cases s1 : n < 0 <;> by_cases s2 : d < 0
  · go_wp2
    go_returns
    obtain ⟨r1, r2, r3⟩ := HK.out (by omega) (by omega)
    exact ⟨ret_of (by rw [r1, if_pos (by simp; omega)]) (by omega) r3, by (repeat' (first | (with_reducible exact G.refl _) | (with_reducible assumption) | (with_reducible refine G.drewN ?_ _) | (with_reducible refine G.drew ?_) | (with_reducible refine G.alloc ?_ _) | (with_reducible refine G.setCell ?_ (by first | (with_reducible exact Nat.le_refl _) | (simp; done) | (simp; omega) | omega) _) | (with_reducible refine G.trans ?_ (by assumption))))⟩
  · go_wp2
    go_returns
    obtain ⟨r1, r2, r3⟩ := HK.out (by omega) (by omega)
    exact ⟨ret_of (by rw [r1, if_neg (by simp; omega)]) (by omega) r3, by (repeat' (first | (with_reducible exact G.refl _) | (with_reducible assumption) | (with_reducible refine G.drewN ?_ _) | (with_reducible refine G.drew ?_) | (with_reducible refine G.alloc ?_ _) | (with_reducible refine G.setCell ?_ (by first | (with_reducible exact Nat.le_refl _) | (simp; done) | (simp; omega) | omega) _) | (with_reducible refine G.trans ?_ (by assumption))))⟩
  · go_wp2
    go_returns
    obtain ⟨r1, r2, r3⟩ := HK.out (by omega) (by omega)
    exact ⟨ret_of (by rw [r1, if_neg (by simp; omega)]) (by omega) r3, by (repeat' (first | (with_reducible exact G.refl _) | (with_reducible assumption) | (with_reducible refine G.drewN ?_ _) | (with_reducible refine G.drew ?_) | (with_reducible refine G.alloc ?_ _) | (with_reducible refine G.setCell ?_ (by first | (with_reducible exact Nat.le_refl _) | (simp; done) | (simp; omega) | omega) _) | (with_reducible refine G.trans ?_ (by assumption))))⟩
  · go_wp2
    go_returns
    obtain ⟨r1, r2, r3⟩ := HK.out (by omega) (by omega)
    exact ⟨ret_of (by rw [r1, if_pos (by simp; omega)]) (by omega) r3, by (repeat' (first | (with_reducible exact G.refl _) | (with_reducible assumption) | (with_reducible refine G.drewN ?_ _) | (with_reducible refine G.drew ?_) | (with_reducible refine G.alloc ?_ _) | (with_reducible refine G.setCell ?_ (by first | (with_reducible exact Nat.le_refl _) | (simp; done) | (simp; omega) | omega) _) | (with_reducible refine G.trans ?_ (by assumption))))⟩

theorem o_zero (n : Int) : oN n 0 = 0 ∧ oD n 0 = 1 ∧ oE n 0 = 15 := by
  have e : oE n 0 = 15 := by unfold oE; rw [if_pos rfl]
  obtain ⟨x, y⟩ := @o_bad n 0 (by omega)
  exact ⟨x, y, e⟩

/-- Of of the program, for every pair of numbers -/
theorem Of_any (n d : Int) (w : World) (h1 : -9223372036854775808 ≤ n) (h2 : n ≤ 9223372036854775807) (h3 : -9223372036854775808 ≤ d) (h4 : d ≤ 9223372036854775807) :
    Calls Tryd.prog 9 #[.int .i64 n, .int .i64 d] w fun e w' => e = .returned (.tuple #[.agg #[.int .i64 (oN n d), .int .i64 (oD n d - 1)], .int .i64 (oE n d)]) ∧ G w w' := by
  by_cases hd : d = 0
  · subst hd
    obtain ⟨x, y, z⟩ := o_zero n
    rw [x, y, z]
    exact Of_zero n w
  · exact Of_pos n d w h1 h2 h3 h4 (by simpa using hd)

set_option maxHeartbeats 800000 in
theorem rOf_zero (n : Int) (w : World) :
    Calls Tryd.prog 10 #[.int .i64 n, .int .i64 0] w fun e w' => e = .returned (.tuple #[.agg #[.int .i64 0, .int .i64 1], .int .i64 15]) ∧ G w w' := by
  go_enter Tryd.func10, Tryd.ntmps10
  go_wp2
  go_returns
  exact ⟨rfl, by (repeat' (first | (with_reducible exact G.refl _) | (with_reducible assumption) | (with_reducible refine G.drewN ?_ _) | (with_reducible refine G.drew ?_) | (with_reducible refine G.alloc ?_ _) | (with_reducible refine G.setCell ?_ (by first | (with_reducible exact Nat.le_refl _) | (simp; done) | (simp; omega) | omega) _) | (with_reducible refine G.trans ?_ (by assumption))))⟩

set_option maxHeartbeats 800000 in
theorem rOf_pos (n d : Int) (w : World) (h1 : -9223372036854775808 ≤ n) (h2 : n ≤ 9223372036854775807) (h3 : -9223372036854775808 ≤ d) (h4 : d ≤ 9223372036854775807) (hd : (d == 0) = false) :
    Calls Tryd.prog 10 #[.int .i64 n, .int .i64 d] w fun e w' => e = .returned (.tuple #[.agg #[.int .i64 (oN n d), .int .i64 (oD n d)], .int .i64 (oE n d)]) ∧ G w w' := by
  go_enter Tryd.func10, Tryd.ntmps10
  go_wp2_with fail
  refine (rmagnitude_any n _ h1 h2).mono ?_
  rintro e w1 ⟨rfl, rfl⟩
  go_wp2_with fail
  refine (rmagnitude_any d _ h3 h4).mono ?_
  rintro e w1 ⟨rfl, rfl⟩
  go_wp2_with fail
  refine (rdivisor_any n.natAbs d.natAbs _ (by omega) (by omega)).mono ?_
  rintro e w1 ⟨rfl, kd, rfl⟩
  rw [show Nat.gcd n.natAbs d.natAbs = gc n d from rfl]
  have hp : 0 < gc n d := gc_pos (by simpa using hd)
  have hq : 1 ≤ d.natAbs / gc n d := dq_pos (by simpa using hd)
  go_wp2_with fail
  go_quiet (fail)
  rw [← Int.natCast_ediv, ← Int.natCast_ediv]
  have za : n.natAbs / gc n d ≤ 9223372036854775808 := Nat.le_trans (Nat.div_le_self _ _) (by omega)
  have zb : d.natAbs / gc n d ≤ 9223372036854775808 := Nat.le_trans (Nat.div_le_self _ _) (by omega)
  have B := @o_bad_of n d (n.natAbs / gc n d) (d.natAbs / gc n d) hd rfl rfl
  have K := @o_good_of n d (n.natAbs / gc n d) (d.natAbs / gc n d) hd rfl rfl
  generalize n.natAbs / gc n d = a at *
  generalize d.natAbs / gc n d = b at *
  have HB := Lib.hid B; clear B
  have HK := Lib.hid K; clear K
  by_cases c1 : 1073741824 < a
  · go_wp2
    go_returns
    obtain ⟨r1, r2, r3⟩ := HB.out (Or.inl c1)
    exact ⟨ret_of r1 (by omega) r3, by (repeat' (first | (with_reducible exact G.refl _) | (with_reducible assumption) | (with_reducible refine G.drewN ?_ _) | (with_reducible refine G.drew ?_) | (with_reducible refine G.alloc ?_ _) | (with_reducible refine G.setCell ?_ (by first | (with_reducible exact Nat.le_refl _) | (simp; done) | (simp; omega) | omega) _) | (with_reducible refine G.trans ?_ (by assumption))))⟩
  by_cases c2 : 1073741824 < b
  · go_wp2
    go_returns
    obtain ⟨r1, r2, r3⟩ := HB.out (Or.inr c2)
    exact ⟨ret_of r1 (by omega) r3, by (repeat' (first | (with_reducible exact G.refl _) | (with_reducible assumption) | (with_reducible refine G.drewN ?_ _) | (with_reducible refine G.drew ?_) | (with_reducible refine G.alloc ?_ _) | (with_reducible refine G.setCell ?_ (by first | (with_reducible exact Nat.le_refl _) | (simp; done) | (simp; omega) | omega) _) | (with_reducible refine G.trans ?_ (by assumption))))⟩
  by_cases s1 : n < 0 <;> by_cases s2 : d < 0
  all_goals
    go_wp2
    go_returns
    obtain ⟨r1, r2, r3⟩ := HK.out (by omega) (by omega)
    first
      | exact ⟨ret_of (by rw [r1, if_pos (by simp; omega)]) (by omega) r3, by (repeat' (first | (with_reducible exact G.refl _) | (with_reducible assumption) | (with_reducible refine G.drewN ?_ _) | (with_reducible refine G.drew ?_) | (with_reducible refine G.alloc ?_ _) | (with_reducible refine G.setCell ?_ (by first | (with_reducible exact Nat.le_refl _) | (simp; done) | (simp; omega) | omega) _) | (with_reducible refine G.trans ?_ (by assumption))))⟩
      | exact ⟨ret_of (by rw [r1, if_neg (by simp; omega)]) (by omega) r3, by (repeat' (first | (with_reducible exact G.refl _) | (with_reducible assumption) | (with_reducible refine G.drewN ?_ _) | (with_reducible refine G.drew ?_) | (with_reducible refine G.alloc ?_ _) | (with_reducible refine G.setCell ?_ (by first | (with_reducible exact Nat.le_refl _) | (simp; done) | (simp; omega) | omega) _) | (with_reducible refine G.trans ?_ (by assumption))))⟩

/-- Of of the reference, for every pair of numbers -/
theorem rOf_any (n d : Int) (w : World) (h1 : -9223372036854775808 ≤ n) (h2 : n ≤ 9223372036854775807) (h3 : -9223372036854775808 ≤ d) (h4 : d ≤ 9223372036854775807) :
    Calls Tryd.prog 10 #[.int .i64 n, .int .i64 d] w fun e w' => e = .returned (.tuple #[.agg #[.int .i64 (oN n d), .int .i64 (oD n d)], .int .i64 (oE n d)]) ∧ G w w' := by
  by_cases hd : d = 0
  · subst hd
    obtain ⟨x, y, z⟩ := o_zero n
    rw [x, y, z]
    exact rOf_zero n w
  · exact rOf_pos n d w h1 h2 h3 h4 (by simpa using hd)
end Go.Proofs.YthengbhokamhbaaDoor
