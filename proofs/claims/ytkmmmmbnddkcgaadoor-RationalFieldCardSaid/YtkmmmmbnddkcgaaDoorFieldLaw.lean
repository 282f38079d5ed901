/- RationalField: for every three pairs of numbers, brought into the limits: sums and products are commutative, associative and distributive where they are representable; the arguments read as before; the tables that the row lists are tied to the program text; no further condition. -/
import Derived.Test.YtkmmmmbnddkcgaaDoorArr2
import Derived.Deep.RegionHeld3
import Derived.Deep.DeepCutAuto
namespace Go.Proofs.YtkmmmmbnddkcgaaDoor
open Go.RowKit QM QB QP
attribute [local go_sem] World.cell?_alloc_some

theorem field_assoc {N O M U L V A B S1 T1 E1 A4 B4 S4 T4 E4 A5 B5 S5 T5 E5 A6 B6 S6 T6 E6 : Int} (hN : Cn N O) (hM : Cn M U) (hL : Cn L V)
    (HA : A = N * (U + 1) + M * (O + 1)) (HB : B = (O + 1) * (U + 1)) (HS1 : S1 = oN A B) (HT1 : T1 = oD A B - 1) (HE1 : E1 = oE A B)
    (HA4 : A4 = M * (V + 1) + L * (U + 1)) (HB4 : B4 = (U + 1) * (V + 1)) (HS4 : S4 = oN A4 B4) (HT4 : T4 = oD A4 B4 - 1) (HE4 : E4 = oE A4 B4)
    (HA5 : A5 = S1 * (V + 1) + L * (T1 + 1)) (HB5 : B5 = (T1 + 1) * (V + 1)) (HS5 : S5 = oN A5 B5) (HT5 : T5 = oD A5 B5 - 1) (HE5 : E5 = oE A5 B5)
    (HA6 : A6 = N * (T4 + 1) + S4 * (O + 1)) (HB6 : B6 = (O + 1) * (T4 + 1)) (HS6 : S6 = oN A6 B6) (HT6 : T6 = oD A6 B6 - 1) (HE6 : E6 = oE A6 B6)
    (z : E1 = 0) (y : E4 = 0) : E5 = E6 ∧ S5 = S6 ∧ T5 = T6 := by
  have c1 := @o_cross A B (by omega)
  have c4 := @o_cross A4 B4 (by omega)
  have d1 := oD_bd A B
  have d4 := oD_bd A4 B4
  have t1 : oD A B = T1 + 1 := by omega
  have t4 : oD A4 B4 = T4 + 1 := by omega
  rw [← HS1, t1] at c1
  rw [← HS4, t4] at c4
  have o1 := hN.o1; have u1 := hM.o1; have v1 := hL.o1
  have n5 : B5 ≠ 0 := by rw [HB5]; exact Int.ne_of_gt (Int.mul_pos (by omega) (by omega))
  have n6 : B6 ≠ 0 := by rw [HB6]; exact Int.ne_of_gt (Int.mul_pos (by omega) (by omega))
  have key : A5 * B6 = A6 * B5 := by
    have hU : (0 : Int) < (U + 1) := by omega
    -- both sides times (U + 1) agree
    have e1 : S1 * ((O + 1) * (U + 1)) = (N * (U + 1) + M * (O + 1)) * (T1 + 1) := by rw [← HA, ← HB]; exact c1
    have e4 : S4 * ((U + 1) * (V + 1)) = (M * (V + 1) + L * (U + 1)) * (T4 + 1) := by rw [← HA4, ← HB4]; exact c4
    have : (A5 * B6) * (U + 1) = (A6 * B5) * (U + 1) := by
      rw [HA5, HB6, HA6, HB5]
      generalize O + 1 = o at *
      generalize U + 1 = u at *
      generalize V + 1 = v at *
      generalize T1 + 1 = t at *
      generalize T4 + 1 = q at *
      grind
    exact Int.eq_of_mul_eq_mul_right (by omega) this
  obtain ⟨x1, x2, x3⟩ := o_congr n5 n6 key
  exact ⟨by omega, by omega, by omega⟩

theorem field_dist {N O M U L V A3 B3 S3 T3 E3 A4 B4 S4 T4 E4 A7 B7 S7 T7 E7 A8 B8 S8 T8 E8 A9 B9 S9 T9 E9 : Int} (hN : Cn N O) (hM : Cn M U) (hL : Cn L V)
    (HA3 : A3 = N * M) (HB3 : B3 = (O + 1) * (U + 1)) (HS3 : S3 = oN A3 B3) (HT3 : T3 = oD A3 B3 - 1) (HE3 : E3 = oE A3 B3)
    (HA4 : A4 = M * (V + 1) + L * (U + 1)) (HB4 : B4 = (U + 1) * (V + 1)) (HS4 : S4 = oN A4 B4) (HT4 : T4 = oD A4 B4 - 1) (HE4 : E4 = oE A4 B4)
    (HA7 : A7 = N * L) (HB7 : B7 = (O + 1) * (V + 1)) (HS7 : S7 = oN A7 B7) (HT7 : T7 = oD A7 B7 - 1) (HE7 : E7 = oE A7 B7)
    (HA8 : A8 = N * S4) (HB8 : B8 = (O + 1) * (T4 + 1)) (HS8 : S8 = oN A8 B8) (HT8 : T8 = oD A8 B8 - 1) (HE8 : E8 = oE A8 B8)
    (HA9 : A9 = S3 * (T7 + 1) + S7 * (T3 + 1)) (HB9 : B9 = (T3 + 1) * (T7 + 1)) (HS9 : S9 = oN A9 B9) (HT9 : T9 = oD A9 B9 - 1) (HE9 : E9 = oE A9 B9)
    (z : E4 = 0) (y : E3 = 0) (x : E7 = 0) : E8 = E9 ∧ S8 = S9 ∧ T8 = T9 := by
  have c3 := @o_cross A3 B3 (by omega)
  have c4 := @o_cross A4 B4 (by omega)
  have c7 := @o_cross A7 B7 (by omega)
  have d3 := oD_bd A3 B3
  have d4 := oD_bd A4 B4
  have d7 := oD_bd A7 B7
  have t3 : oD A3 B3 = T3 + 1 := by omega
  have t4 : oD A4 B4 = T4 + 1 := by omega
  have t7 : oD A7 B7 = T7 + 1 := by omega
  rw [← HS3, t3] at c3
  rw [← HS4, t4] at c4
  rw [← HS7, t7] at c7
  have o1 := hN.o1; have u1 := hM.o1; have v1 := hL.o1
  have n8 : B8 ≠ 0 := by rw [HB8]; exact Int.ne_of_gt (Int.mul_pos (by omega) (by omega))
  have n9 : B9 ≠ 0 := by rw [HB9]; exact Int.ne_of_gt (Int.mul_pos (by omega) (by omega))
  have key : A8 * B9 = A9 * B8 := by
    have e3 : S3 * ((O + 1) * (U + 1)) = (N * M) * (T3 + 1) := by rw [← HA3, ← HB3]; exact c3
    have e4 : S4 * ((U + 1) * (V + 1)) = (M * (V + 1) + L * (U + 1)) * (T4 + 1) := by rw [← HA4, ← HB4]; exact c4
    have e7 : S7 * ((O + 1) * (V + 1)) = (N * L) * (T7 + 1) := by rw [← HA7, ← HB7]; exact c7
    have : (A8 * B9) * ((U + 1) * (V + 1)) = (A9 * B8) * ((U + 1) * (V + 1)) := by
      rw [HA8, HB9, HA9, HB8]
      generalize O + 1 = o at *
      generalize U + 1 = u at *
      generalize V + 1 = v at *
      generalize T3 + 1 = t at *
      generalize T4 + 1 = q at *
      generalize T7 + 1 = r at *
      have l : N * S4 * (t * r) * (u * v) = N * (M * v + L * u) * q * t * r := by
        have : N * S4 * (t * r) * (u * v) = N * (S4 * (u * v)) * (t * r) := by ac_rfl
        rw [this, e4]; ac_rfl
      have rr : (S3 * r + S7 * t) * (o * q) * (u * v) = N * (M * v + L * u) * q * t * r := by
        have : (S3 * r + S7 * t) * (o * q) * (u * v) = (S3 * (o * u)) * (r * q * v) + (S7 * (o * v)) * (t * q * u) := by grind
        rw [this, e3, e7]; grind
      rw [l, rr]
    exact Int.eq_of_mul_eq_mul_right (Int.ne_of_gt (Int.mul_pos (by omega) (by omega))) this
  obtain ⟨x1, x2, x3⟩ := o_congr n8 n9 key
  exact ⟨by omega, by omega, by omega⟩

set_option maxRecDepth 100000 in
set_option maxHeartbeats 6400000 in
theorem field_walk (a b c d f g : Int) (w : World) (h1 : -9223372036854775808 ≤ a) (h2 : a ≤ 9223372036854775807) (h3 : -9223372036854775808 ≤ b) (h4 : b ≤ 9223372036854775807)
    (k1 : -9223372036854775808 ≤ c) (k2 : c ≤ 9223372036854775807) (k3 : -9223372036854775808 ≤ d) (k4 : d ≤ 9223372036854775807)
    (l1 : -9223372036854775808 ≤ f) (l2 : f ≤ 9223372036854775807) (l3 : -9223372036854775808 ≤ g) (l4 : g ≤ 9223372036854775807) (hT : Tab w) :
    Calls Tryd.prog 5 #[.agg #[.int .i64 a, .int .i64 b], .agg #[.int .i64 c, .int .i64 d], .agg #[.int .i64 f, .int .i64 g]] w fun e w' => e = .returned (.bool true) ∧ G w w' := by
  have HT := Lib.hid hT
  clear hT
  go_enter Tryd.func5, Tryd.ntmps5
  go_wp2_with fail
  refine (of_any a b _ h1 h2 h3 h4).mono ?_
  rintro e w1 ⟨N, O, hN, rfl, hG1⟩
  have gw1 : G w w1 := G.trans (by (repeat' (first | (with_reducible exact G.refl _) | (with_reducible assumption) | (with_reducible refine G.drewN ?_ _) | (with_reducible refine G.drew ?_) | (with_reducible refine G.alloc ?_ _) | (with_reducible refine G.setCell ?_ (by first | (with_reducible exact Nat.le_refl _) | (simp; done) | (simp; omega) | omega) _) | (with_reducible refine G.trans ?_ (by assumption))))) hG1
  have g0x1 : G (((w.alloc (.cells #[.int .i64 a, .int .i64 b] 35)).alloc (.cells #[.int .i64 c, .int .i64 d] 35)).alloc (.cells #[.int .i64 f, .int .i64 g] 35)) w1 := G.trans (by (repeat' (first | (with_reducible exact G.refl _) | (with_reducible assumption) | (with_reducible refine G.drewN ?_ _) | (with_reducible refine G.drew ?_) | (with_reducible refine G.alloc ?_ _) | (with_reducible refine G.setCell ?_ (by first | (with_reducible exact Nat.le_refl _) | (simp; done) | (simp; omega) | omega) _) | (with_reducible refine G.trans ?_ (by assumption))))) hG1
  obtain ⟨c0a, c0b, c0c, c0d, c0e, c0f⟩ := trio_later g0x1
  go_wp2_with fail
  refine (of_any c d _ k1 k2 k3 k4).mono ?_
  rintro e w2 ⟨M, U, hM, rfl, hG2⟩
  have gw2 : G w w2 := gw1.trans (G.trans (by (repeat' (first | (with_reducible exact G.refl _) | (with_reducible assumption) | (with_reducible refine G.drewN ?_ _) | (with_reducible refine G.drew ?_) | (with_reducible refine G.alloc ?_ _) | (with_reducible refine G.setCell ?_ (by first | (with_reducible exact Nat.le_refl _) | (simp; done) | (simp; omega) | omega) _) | (with_reducible refine G.trans ?_ (by assumption))))) hG2)
  clear gw1
  clear c0a c0b c0c c0d c0e c0f
  have g0x2 : G (((w.alloc (.cells #[.int .i64 a, .int .i64 b] 35)).alloc (.cells #[.int .i64 c, .int .i64 d] 35)).alloc (.cells #[.int .i64 f, .int .i64 g] 35)) w2 := g0x1.trans (G.trans (by (repeat' (first | (with_reducible exact G.refl _) | (with_reducible assumption) | (with_reducible refine G.drewN ?_ _) | (with_reducible refine G.drew ?_) | (with_reducible refine G.alloc ?_ _) | (with_reducible refine G.setCell ?_ (by first | (with_reducible exact Nat.le_refl _) | (simp; done) | (simp; omega) | omega) _) | (with_reducible refine G.trans ?_ (by assumption))))) hG2)
  clear g0x1
  have g1x2 : G ((w1.alloc (.cells #[.int .i64 (N), .int .i64 (O)] 23)).alloc (.cells #[.int .i64 (N), .int .i64 (O + 1)] 28)) w2 := G.trans (by (repeat' (first | (with_reducible exact G.refl _) | (with_reducible assumption) | (with_reducible refine G.drewN ?_ _) | (with_reducible refine G.drew ?_) | (with_reducible refine G.alloc ?_ _) | (with_reducible refine G.setCell ?_ (by first | (with_reducible exact Nat.le_refl _) | (simp; done) | (simp; omega) | omega) _) | (with_reducible refine G.trans ?_ (by assumption))))) hG2
  obtain ⟨c0a, c0b, c0c, c0d, c0e, c0f⟩ := trio_later g0x2
  obtain ⟨c1a, c1b, c1c, c1d⟩ := pair_later g1x2
  go_wp2_with fail
  refine (of_any f g _ l1 l2 l3 l4).mono ?_
  rintro e w3 ⟨L, V, hL, rfl, hG3⟩
  have gw3 : G w w3 := gw2.trans (G.trans (by (repeat' (first | (with_reducible exact G.refl _) | (with_reducible assumption) | (with_reducible refine G.drewN ?_ _) | (with_reducible refine G.drew ?_) | (with_reducible refine G.alloc ?_ _) | (with_reducible refine G.setCell ?_ (by first | (with_reducible exact Nat.le_refl _) | (simp; done) | (simp; omega) | omega) _) | (with_reducible refine G.trans ?_ (by assumption))))) hG3)
  clear gw2
  clear c0a c0b c0c c0d c0e c0f c1a c1b c1c c1d
  have g0x3 : G (((w.alloc (.cells #[.int .i64 a, .int .i64 b] 35)).alloc (.cells #[.int .i64 c, .int .i64 d] 35)).alloc (.cells #[.int .i64 f, .int .i64 g] 35)) w3 := g0x2.trans (G.trans (by (repeat' (first | (with_reducible exact G.refl _) | (with_reducible assumption) | (with_reducible refine G.drewN ?_ _) | (with_reducible refine G.drew ?_) | (with_reducible refine G.alloc ?_ _) | (with_reducible refine G.setCell ?_ (by first | (with_reducible exact Nat.le_refl _) | (simp; done) | (simp; omega) | omega) _) | (with_reducible refine G.trans ?_ (by assumption))))) hG3)
  clear g0x2
  have g1x3 : G ((w1.alloc (.cells #[.int .i64 (N), .int .i64 (O)] 23)).alloc (.cells #[.int .i64 (N), .int .i64 (O + 1)] 28)) w3 := g1x2.trans (G.trans (by (repeat' (first | (with_reducible exact G.refl _) | (with_reducible assumption) | (with_reducible refine G.drewN ?_ _) | (with_reducible refine G.drew ?_) | (with_reducible refine G.alloc ?_ _) | (with_reducible refine G.setCell ?_ (by first | (with_reducible exact Nat.le_refl _) | (simp; done) | (simp; omega) | omega) _) | (with_reducible refine G.trans ?_ (by assumption))))) hG3)
  clear g1x2
  have g2x3 : G ((w2.alloc (.cells #[.int .i64 (M), .int .i64 (U)] 23)).alloc (.cells #[.int .i64 (M), .int .i64 (U + 1)] 28)) w3 := G.trans (by (repeat' (first | (with_reducible exact G.refl _) | (with_reducible assumption) | (with_reducible refine G.drewN ?_ _) | (with_reducible refine G.drew ?_) | (with_reducible refine G.alloc ?_ _) | (with_reducible refine G.setCell ?_ (by first | (with_reducible exact Nat.le_refl _) | (simp; done) | (simp; omega) | omega) _) | (with_reducible refine G.trans ?_ (by assumption))))) hG3
  obtain ⟨c0a, c0b, c0c, c0d, c0e, c0f⟩ := trio_later g0x3
  obtain ⟨c1a, c1b, c1c, c1d⟩ := pair_later g1x3
  obtain ⟨c2a, c2b, c2c, c2d⟩ := pair_later g2x3
  obtain ⟨A, HA⟩ : ∃ z : Int, Hid (z = N * (U + 1) + M * (O + 1)) := ⟨_, rfl⟩
  obtain ⟨B, HB⟩ : ∃ z : Int, Hid (z = (O + 1) * (U + 1)) := ⟨_, rfl⟩
  obtain ⟨S1, HS1⟩ : ∃ z : Int, Hid (z = oN A B) := ⟨_, rfl⟩
  obtain ⟨T1, HT1⟩ : ∃ z : Int, Hid (z = oD A B - 1) := ⟨_, rfl⟩
  obtain ⟨E1, HE1⟩ : ∃ z : Int, Hid (z = oE A B) := ⟨_, rfl⟩
  have CS1 : Cn S1 T1 := by rw [HS1.out, HT1.out]; exact cn_of A B
  go_wp2_with fail
  refine (Add_any N O M U _ hN hM).mono ?_
  rintro e w4 ⟨rfl, hG4⟩
  rw [← HA.out, ← HB.out, ← HS1.out, ← HT1.out, ← HE1.out]
  have gw4 : G w w4 := gw3.trans (G.trans (by (repeat' (first | (with_reducible exact G.refl _) | (with_reducible assumption) | (with_reducible refine G.drewN ?_ _) | (with_reducible refine G.drew ?_) | (with_reducible refine G.alloc ?_ _) | (with_reducible refine G.setCell ?_ (by first | (with_reducible exact Nat.le_refl _) | (simp; done) | (simp; omega) | omega) _) | (with_reducible refine G.trans ?_ (by assumption))))) hG4)
  clear gw3
  clear c0a c0b c0c c0d c0e c0f c1a c1b c1c c1d c2a c2b c2c c2d
  have g0x4 : G (((w.alloc (.cells #[.int .i64 a, .int .i64 b] 35)).alloc (.cells #[.int .i64 c, .int .i64 d] 35)).alloc (.cells #[.int .i64 f, .int .i64 g] 35)) w4 := g0x3.trans (G.trans (by (repeat' (first | (with_reducible exact G.refl _) | (with_reducible assumption) | (with_reducible refine G.drewN ?_ _) | (with_reducible refine G.drew ?_) | (with_reducible refine G.alloc ?_ _) | (with_reducible refine G.setCell ?_ (by first | (with_reducible exact Nat.le_refl _) | (simp; done) | (simp; omega) | omega) _) | (with_reducible refine G.trans ?_ (by assumption))))) hG4)
  clear g0x3
  have g1x4 : G ((w1.alloc (.cells #[.int .i64 (N), .int .i64 (O)] 23)).alloc (.cells #[.int .i64 (N), .int .i64 (O + 1)] 28)) w4 := g1x3.trans (G.trans (by (repeat' (first | (with_reducible exact G.refl _) | (with_reducible assumption) | (with_reducible refine G.drewN ?_ _) | (with_reducible refine G.drew ?_) | (with_reducible refine G.alloc ?_ _) | (with_reducible refine G.setCell ?_ (by first | (with_reducible exact Nat.le_refl _) | (simp; done) | (simp; omega) | omega) _) | (with_reducible refine G.trans ?_ (by assumption))))) hG4)
  clear g1x3
  have g2x4 : G ((w2.alloc (.cells #[.int .i64 (M), .int .i64 (U)] 23)).alloc (.cells #[.int .i64 (M), .int .i64 (U + 1)] 28)) w4 := g2x3.trans (G.trans (by (repeat' (first | (with_reducible exact G.refl _) | (with_reducible assumption) | (with_reducible refine G.drewN ?_ _) | (with_reducible refine G.drew ?_) | (with_reducible refine G.alloc ?_ _) | (with_reducible refine G.setCell ?_ (by first | (with_reducible exact Nat.le_refl _) | (simp; done) | (simp; omega) | omega) _) | (with_reducible refine G.trans ?_ (by assumption))))) hG4)
  clear g2x3
  have g3x4 : G ((w3.alloc (.cells #[.int .i64 (L), .int .i64 (V)] 23)).alloc (.cells #[.int .i64 (L), .int .i64 (V + 1)] 28)) w4 := G.trans (by (repeat' (first | (with_reducible exact G.refl _) | (with_reducible assumption) | (with_reducible refine G.drewN ?_ _) | (with_reducible refine G.drew ?_) | (with_reducible refine G.alloc ?_ _) | (with_reducible refine G.setCell ?_ (by first | (with_reducible exact Nat.le_refl _) | (simp; done) | (simp; omega) | omega) _) | (with_reducible refine G.trans ?_ (by assumption))))) hG4
  obtain ⟨c0a, c0b, c0c, c0d, c0e, c0f⟩ := trio_later g0x4
  obtain ⟨c1a, c1b, c1c, c1d⟩ := pair_later g1x4
  obtain ⟨c2a, c2b, c2c, c2d⟩ := pair_later g2x4
  obtain ⟨c3a, c3b, c3c, c3d⟩ := pair_later g3x4
  have cA : M * (O + 1) + N * (U + 1) = N * (U + 1) + M * (O + 1) := Int.add_comm _ _
  have cB : (U + 1) * (O + 1) = (O + 1) * (U + 1) := Int.mul_comm _ _
  have cP : M * N = N * M := Int.mul_comm _ _
  have HcA := Lib.hid cA
  have HcB := Lib.hid cB
  have HcP := Lib.hid cP
  clear cA cB cP
  go_wp2_with fail
  refine (Add_any M U N O _ hM hN).mono ?_
  rintro e w5 ⟨rfl, hG5⟩
  rw [HcA.out, HcB.out, ← HA.out, ← HB.out, ← HS1.out, ← HT1.out, ← HE1.out]
  have gw5 : G w w5 := gw4.trans (G.trans (by (repeat' (first | (with_reducible exact G.refl _) | (with_reducible assumption) | (with_reducible refine G.drewN ?_ _) | (with_reducible refine G.drew ?_) | (with_reducible refine G.alloc ?_ _) | (with_reducible refine G.setCell ?_ (by first | (with_reducible exact Nat.le_refl _) | (simp; done) | (simp; omega) | omega) _) | (with_reducible refine G.trans ?_ (by assumption))))) hG5)
  clear gw4
  clear c0a c0b c0c c0d c0e c0f c1a c1b c1c c1d c2a c2b c2c c2d c3a c3b c3c c3d
  have g0x5 : G (((w.alloc (.cells #[.int .i64 a, .int .i64 b] 35)).alloc (.cells #[.int .i64 c, .int .i64 d] 35)).alloc (.cells #[.int .i64 f, .int .i64 g] 35)) w5 := g0x4.trans (G.trans (by (repeat' (first | (with_reducible exact G.refl _) | (with_reducible assumption) | (with_reducible refine G.drewN ?_ _) | (with_reducible refine G.drew ?_) | (with_reducible refine G.alloc ?_ _) | (with_reducible refine G.setCell ?_ (by first | (with_reducible exact Nat.le_refl _) | (simp; done) | (simp; omega) | omega) _) | (with_reducible refine G.trans ?_ (by assumption))))) hG5)
  clear g0x4
  have g1x5 : G ((w1.alloc (.cells #[.int .i64 (N), .int .i64 (O)] 23)).alloc (.cells #[.int .i64 (N), .int .i64 (O + 1)] 28)) w5 := g1x4.trans (G.trans (by (repeat' (first | (with_reducible exact G.refl _) | (with_reducible assumption) | (with_reducible refine G.drewN ?_ _) | (with_reducible refine G.drew ?_) | (with_reducible refine G.alloc ?_ _) | (with_reducible refine G.setCell ?_ (by first | (with_reducible exact Nat.le_refl _) | (simp; done) | (simp; omega) | omega) _) | (with_reducible refine G.trans ?_ (by assumption))))) hG5)
  clear g1x4
  have g2x5 : G ((w2.alloc (.cells #[.int .i64 (M), .int .i64 (U)] 23)).alloc (.cells #[.int .i64 (M), .int .i64 (U + 1)] 28)) w5 := g2x4.trans (G.trans (by (repeat' (first | (with_reducible exact G.refl _) | (with_reducible assumption) | (with_reducible refine G.drewN ?_ _) | (with_reducible refine G.drew ?_) | (with_reducible refine G.alloc ?_ _) | (with_reducible refine G.setCell ?_ (by first | (with_reducible exact Nat.le_refl _) | (simp; done) | (simp; omega) | omega) _) | (with_reducible refine G.trans ?_ (by assumption))))) hG5)
  clear g2x4
  have g3x5 : G ((w3.alloc (.cells #[.int .i64 (L), .int .i64 (V)] 23)).alloc (.cells #[.int .i64 (L), .int .i64 (V + 1)] 28)) w5 := g3x4.trans (G.trans (by (repeat' (first | (with_reducible exact G.refl _) | (with_reducible assumption) | (with_reducible refine G.drewN ?_ _) | (with_reducible refine G.drew ?_) | (with_reducible refine G.alloc ?_ _) | (with_reducible refine G.setCell ?_ (by first | (with_reducible exact Nat.le_refl _) | (simp; done) | (simp; omega) | omega) _) | (with_reducible refine G.trans ?_ (by assumption))))) hG5)
  clear g3x4
  have g4x5 : G (w4.alloc (.cells #[.int .i64 S1, .int .i64 T1] 23)) w5 := G.trans (by (repeat' (first | (with_reducible exact G.refl _) | (with_reducible assumption) | (with_reducible refine G.drewN ?_ _) | (with_reducible refine G.drew ?_) | (with_reducible refine G.alloc ?_ _) | (with_reducible refine G.setCell ?_ (by first | (with_reducible exact Nat.le_refl _) | (simp; done) | (simp; omega) | omega) _) | (with_reducible refine G.trans ?_ (by assumption))))) hG5
  obtain ⟨c0a, c0b, c0c, c0d, c0e, c0f⟩ := trio_later g0x5
  obtain ⟨c1a, c1b, c1c, c1d⟩ := pair_later g1x5
  obtain ⟨c2a, c2b, c2c, c2d⟩ := pair_later g2x5
  obtain ⟨c3a, c3b, c3c, c3d⟩ := pair_later g3x5
  obtain ⟨c4a, c4b⟩ := box_later g4x5
  obtain ⟨A3, HA3⟩ : ∃ z : Int, Hid (z = N * M) := ⟨_, rfl⟩
  obtain ⟨B3, HB3⟩ : ∃ z : Int, Hid (z = (O + 1) * (U + 1)) := ⟨_, rfl⟩
  obtain ⟨S3, HS3⟩ : ∃ z : Int, Hid (z = oN A3 B3) := ⟨_, rfl⟩
  obtain ⟨T3, HT3⟩ : ∃ z : Int, Hid (z = oD A3 B3 - 1) := ⟨_, rfl⟩
  obtain ⟨E3, HE3⟩ : ∃ z : Int, Hid (z = oE A3 B3) := ⟨_, rfl⟩
  have CS3 : Cn S3 T3 := by rw [HS3.out, HT3.out]; exact cn_of A3 B3
  go_wp2_with fail
  refine (Mul_any N O M U _ hN hM).mono ?_
  rintro e w6 ⟨rfl, hG6⟩
  rw [← HA3.out, ← HB3.out, ← HS3.out, ← HT3.out, ← HE3.out]
  have gw6 : G w w6 := gw5.trans (G.trans (by (repeat' (first | (with_reducible exact G.refl _) | (with_reducible assumption) | (with_reducible refine G.drewN ?_ _) | (with_reducible refine G.drew ?_) | (with_reducible refine G.alloc ?_ _) | (with_reducible refine G.setCell ?_ (by first | (with_reducible exact Nat.le_refl _) | (simp; done) | (simp; omega) | omega) _) | (with_reducible refine G.trans ?_ (by assumption))))) hG6)
  clear gw5
  clear c0a c0b c0c c0d c0e c0f c1a c1b c1c c1d c2a c2b c2c c2d c3a c3b c3c c3d c4a c4b
  have g0x6 : G (((w.alloc (.cells #[.int .i64 a, .int .i64 b] 35)).alloc (.cells #[.int .i64 c, .int .i64 d] 35)).alloc (.cells #[.int .i64 f, .int .i64 g] 35)) w6 := g0x5.trans (G.trans (by (repeat' (first | (with_reducible exact G.refl _) | (with_reducible assumption) | (with_reducible refine G.drewN ?_ _) | (with_reducible refine G.drew ?_) | (with_reducible refine G.alloc ?_ _) | (with_reducible refine G.setCell ?_ (by first | (with_reducible exact Nat.le_refl _) | (simp; done) | (simp; omega) | omega) _) | (with_reducible refine G.trans ?_ (by assumption))))) hG6)
  clear g0x5
  have g1x6 : G ((w1.alloc (.cells #[.int .i64 (N), .int .i64 (O)] 23)).alloc (.cells #[.int .i64 (N), .int .i64 (O + 1)] 28)) w6 := g1x5.trans (G.trans (by (repeat' (first | (with_reducible exact G.refl _) | (with_reducible assumption) | (with_reducible refine G.drewN ?_ _) | (with_reducible refine G.drew ?_) | (with_reducible refine G.alloc ?_ _) | (with_reducible refine G.setCell ?_ (by first | (with_reducible exact Nat.le_refl _) | (simp; done) | (simp; omega) | omega) _) | (with_reducible refine G.trans ?_ (by assumption))))) hG6)
  clear g1x5
  have g2x6 : G ((w2.alloc (.cells #[.int .i64 (M), .int .i64 (U)] 23)).alloc (.cells #[.int .i64 (M), .int .i64 (U + 1)] 28)) w6 := g2x5.trans (G.trans (by (repeat' (first | (with_reducible exact G.refl _) | (with_reducible assumption) | (with_reducible refine G.drewN ?_ _) | (with_reducible refine G.drew ?_) | (with_reducible refine G.alloc ?_ _) | (with_reducible refine G.setCell ?_ (by first | (with_reducible exact Nat.le_refl _) | (simp; done) | (simp; omega) | omega) _) | (with_reducible refine G.trans ?_ (by assumption))))) hG6)
  clear g2x5
  have g3x6 : G ((w3.alloc (.cells #[.int .i64 (L), .int .i64 (V)] 23)).alloc (.cells #[.int .i64 (L), .int .i64 (V + 1)] 28)) w6 := g3x5.trans (G.trans (by (repeat' (first | (with_reducible exact G.refl _) | (with_reducible assumption) | (with_reducible refine G.drewN ?_ _) | (with_reducible refine G.drew ?_) | (with_reducible refine G.alloc ?_ _) | (with_reducible refine G.setCell ?_ (by first | (with_reducible exact Nat.le_refl _) | (simp; done) | (simp; omega) | omega) _) | (with_reducible refine G.trans ?_ (by assumption))))) hG6)
  clear g3x5
  have g4x6 : G (w4.alloc (.cells #[.int .i64 S1, .int .i64 T1] 23)) w6 := g4x5.trans (G.trans (by (repeat' (first | (with_reducible exact G.refl _) | (with_reducible assumption) | (with_reducible refine G.drewN ?_ _) | (with_reducible refine G.drew ?_) | (with_reducible refine G.alloc ?_ _) | (with_reducible refine G.setCell ?_ (by first | (with_reducible exact Nat.le_refl _) | (simp; done) | (simp; omega) | omega) _) | (with_reducible refine G.trans ?_ (by assumption))))) hG6)
  clear g4x5
  have g5x6 : G (w5.alloc (.cells #[.int .i64 (S1), .int .i64 (T1)] 23)) w6 := G.trans (by (repeat' (first | (with_reducible exact G.refl _) | (with_reducible assumption) | (with_reducible refine G.drewN ?_ _) | (with_reducible refine G.drew ?_) | (with_reducible refine G.alloc ?_ _) | (with_reducible refine G.setCell ?_ (by first | (with_reducible exact Nat.le_refl _) | (simp; done) | (simp; omega) | omega) _) | (with_reducible refine G.trans ?_ (by assumption))))) hG6
  obtain ⟨c0a, c0b, c0c, c0d, c0e, c0f⟩ := trio_later g0x6
  obtain ⟨c1a, c1b, c1c, c1d⟩ := pair_later g1x6
  obtain ⟨c2a, c2b, c2c, c2d⟩ := pair_later g2x6
  obtain ⟨c3a, c3b, c3c, c3d⟩ := pair_later g3x6
  obtain ⟨c4a, c4b⟩ := box_later g4x6
  obtain ⟨c5a, c5b⟩ := box_later g5x6
  go_wp2_with fail
  refine (Mul_any M U N O _ hM hN).mono ?_
  rintro e w7 ⟨rfl, hG7⟩
  rw [HcP.out, HcB.out, ← HA3.out, ← HB3.out, ← HS3.out, ← HT3.out, ← HE3.out]
  have gw7 : G w w7 := gw6.trans (G.trans (by (repeat' (first | (with_reducible exact G.refl _) | (with_reducible assumption) | (with_reducible refine G.drewN ?_ _) | (with_reducible refine G.drew ?_) | (with_reducible refine G.alloc ?_ _) | (with_reducible refine G.setCell ?_ (by first | (with_reducible exact Nat.le_refl _) | (simp; done) | (simp; omega) | omega) _) | (with_reducible refine G.trans ?_ (by assumption))))) hG7)
  clear gw6
  clear c0a c0b c0c c0d c0e c0f c1a c1b c1c c1d c2a c2b c2c c2d c3a c3b c3c c3d c4a c4b c5a c5b
  have g0x7 : G (((w.alloc (.cells #[.int .i64 a, .int .i64 b] 35)).alloc (.cells #[.int .i64 c, .int .i64 d] 35)).alloc (.cells #[.int .i64 f, .int .i64 g] 35)) w7 := g0x6.trans (G.trans (by (repeat' (first | (with_reducible exact G.refl _) | (with_reducible assumption) | (with_reducible refine G.drewN ?_ _) | (with_reducible refine G.drew ?_) | (with_reducible refine G.alloc ?_ _) | (with_reducible refine G.setCell ?_ (by first | (with_reducible exact Nat.le_refl _) | (simp; done) | (simp; omega) | omega) _) | (with_reducible refine G.trans ?_ (by assumption))))) hG7)
  clear g0x6
  have g1x7 : G ((w1.alloc (.cells #[.int .i64 (N), .int .i64 (O)] 23)).alloc (.cells #[.int .i64 (N), .int .i64 (O + 1)] 28)) w7 := g1x6.trans (G.trans (by (repeat' (first | (with_reducible exact G.refl _) | (with_reducible assumption) | (with_reducible refine G.drewN ?_ _) | (with_reducible refine G.drew ?_) | (with_reducible refine G.alloc ?_ _) | (with_reducible refine G.setCell ?_ (by first | (with_reducible exact Nat.le_refl _) | (simp; done) | (simp; omega) | omega) _) | (with_reducible refine G.trans ?_ (by assumption))))) hG7)
  clear g1x6
  have g2x7 : G ((w2.alloc (.cells #[.int .i64 (M), .int .i64 (U)] 23)).alloc (.cells #[.int .i64 (M), .int .i64 (U + 1)] 28)) w7 := g2x6.trans (G.trans (by (repeat' (first | (with_reducible exact G.refl _) | (with_reducible assumption) | (with_reducible refine G.drewN ?_ _) | (with_reducible refine G.drew ?_) | (with_reducible refine G.alloc ?_ _) | (with_reducible refine G.setCell ?_ (by first | (with_reducible exact Nat.le_refl _) | (simp; done) | (simp; omega) | omega) _) | (with_reducible refine G.trans ?_ (by assumption))))) hG7)
  clear g2x6
  have g3x7 : G ((w3.alloc (.cells #[.int .i64 (L), .int .i64 (V)] 23)).alloc (.cells #[.int .i64 (L), .int .i64 (V + 1)] 28)) w7 := g3x6.trans (G.trans (by (repeat' (first | (with_reducible exact G.refl _) | (with_reducible assumption) | (with_reducible refine G.drewN ?_ _) | (with_reducible refine G.drew ?_) | (with_reducible refine G.alloc ?_ _) | (with_reducible refine G.setCell ?_ (by first | (with_reducible exact Nat.le_refl _) | (simp; done) | (simp; omega) | omega) _) | (with_reducible refine G.trans ?_ (by assumption))))) hG7)
  clear g3x6
  have g4x7 : G (w4.alloc (.cells #[.int .i64 S1, .int .i64 T1] 23)) w7 := g4x6.trans (G.trans (by (repeat' (first | (with_reducible exact G.refl _) | (with_reducible assumption) | (with_reducible refine G.drewN ?_ _) | (with_reducible refine G.drew ?_) | (with_reducible refine G.alloc ?_ _) | (with_reducible refine G.setCell ?_ (by first | (with_reducible exact Nat.le_refl _) | (simp; done) | (simp; omega) | omega) _) | (with_reducible refine G.trans ?_ (by assumption))))) hG7)
  clear g4x6
  have g5x7 : G (w5.alloc (.cells #[.int .i64 (S1), .int .i64 (T1)] 23)) w7 := g5x6.trans (G.trans (by (repeat' (first | (with_reducible exact G.refl _) | (with_reducible assumption) | (with_reducible refine G.drewN ?_ _) | (with_reducible refine G.drew ?_) | (with_reducible refine G.alloc ?_ _) | (with_reducible refine G.setCell ?_ (by first | (with_reducible exact Nat.le_refl _) | (simp; done) | (simp; omega) | omega) _) | (with_reducible refine G.trans ?_ (by assumption))))) hG7)
  clear g5x6
  have g6x7 : G (w6.alloc (.cells #[.int .i64 S3, .int .i64 T3] 23)) w7 := G.trans (by (repeat' (first | (with_reducible exact G.refl _) | (with_reducible assumption) | (with_reducible refine G.drewN ?_ _) | (with_reducible refine G.drew ?_) | (with_reducible refine G.alloc ?_ _) | (with_reducible refine G.setCell ?_ (by first | (with_reducible exact Nat.le_refl _) | (simp; done) | (simp; omega) | omega) _) | (with_reducible refine G.trans ?_ (by assumption))))) hG7
  obtain ⟨c0a, c0b, c0c, c0d, c0e, c0f⟩ := trio_later g0x7
  obtain ⟨c1a, c1b, c1c, c1d⟩ := pair_later g1x7
  obtain ⟨c2a, c2b, c2c, c2d⟩ := pair_later g2x7
  obtain ⟨c3a, c3b, c3c, c3d⟩ := pair_later g3x7
  obtain ⟨c4a, c4b⟩ := box_later g4x7
  obtain ⟨c5a, c5b⟩ := box_later g5x7
  obtain ⟨c6a, c6b⟩ := box_later g6x7
  go_wp2_with fail
  refine (known_any _ (HT.out.later (by (repeat' (first | (with_reducible exact G.refl _) | (with_reducible assumption) | (with_reducible refine G.drewN ?_ _) | (with_reducible refine G.drew ?_) | (with_reducible refine G.alloc ?_ _) | (with_reducible refine G.setCell ?_ (by first | (with_reducible exact Nat.le_refl _) | (simp; done) | (simp; omega) | omega) _) | (with_reducible refine G.trans ?_ (by assumption))))))).mono ?_
  rintro e w8 ⟨rfl, hG8⟩
  have gw8 : G w w8 := gw7.trans (G.trans (by (repeat' (first | (with_reducible exact G.refl _) | (with_reducible assumption) | (with_reducible refine G.drewN ?_ _) | (with_reducible refine G.drew ?_) | (with_reducible refine G.alloc ?_ _) | (with_reducible refine G.setCell ?_ (by first | (with_reducible exact Nat.le_refl _) | (simp; done) | (simp; omega) | omega) _) | (with_reducible refine G.trans ?_ (by assumption))))) hG8)
  clear gw7
  clear c0a c0b c0c c0d c0e c0f c1a c1b c1c c1d c2a c2b c2c c2d c3a c3b c3c c3d c4a c4b c5a c5b c6a c6b
  have g0x8 : G (((w.alloc (.cells #[.int .i64 a, .int .i64 b] 35)).alloc (.cells #[.int .i64 c, .int .i64 d] 35)).alloc (.cells #[.int .i64 f, .int .i64 g] 35)) w8 := g0x7.trans (G.trans (by (repeat' (first | (with_reducible exact G.refl _) | (with_reducible assumption) | (with_reducible refine G.drewN ?_ _) | (with_reducible refine G.drew ?_) | (with_reducible refine G.alloc ?_ _) | (with_reducible refine G.setCell ?_ (by first | (with_reducible exact Nat.le_refl _) | (simp; done) | (simp; omega) | omega) _) | (with_reducible refine G.trans ?_ (by assumption))))) hG8)
  clear g0x7
  have g1x8 : G ((w1.alloc (.cells #[.int .i64 (N), .int .i64 (O)] 23)).alloc (.cells #[.int .i64 (N), .int .i64 (O + 1)] 28)) w8 := g1x7.trans (G.trans (by (repeat' (first | (with_reducible exact G.refl _) | (with_reducible assumption) | (with_reducible refine G.drewN ?_ _) | (with_reducible refine G.drew ?_) | (with_reducible refine G.alloc ?_ _) | (with_reducible refine G.setCell ?_ (by first | (with_reducible exact Nat.le_refl _) | (simp; done) | (simp; omega) | omega) _) | (with_reducible refine G.trans ?_ (by assumption))))) hG8)
  clear g1x7
  have g2x8 : G ((w2.alloc (.cells #[.int .i64 (M), .int .i64 (U)] 23)).alloc (.cells #[.int .i64 (M), .int .i64 (U + 1)] 28)) w8 := g2x7.trans (G.trans (by (repeat' (first | (with_reducible exact G.refl _) | (with_reducible assumption) | (with_reducible refine G.drewN ?_ _) | (with_reducible refine G.drew ?_) | (with_reducible refine G.alloc ?_ _) | (with_reducible refine G.setCell ?_ (by first | (with_reducible exact Nat.le_refl _) | (simp; done) | (simp; omega) | omega) _) | (with_reducible refine G.trans ?_ (by assumption))))) hG8)
  clear g2x7
  have g3x8 : G ((w3.alloc (.cells #[.int .i64 (L), .int .i64 (V)] 23)).alloc (.cells #[.int .i64 (L), .int .i64 (V + 1)] 28)) w8 := g3x7.trans (G.trans (by (repeat' (first | (with_reducible exact G.refl _) | (with_reducible assumption) | (with_reducible refine G.drewN ?_ _) | (with_reducible refine G.drew ?_) | (with_reducible refine G.alloc ?_ _) | (with_reducible refine G.setCell ?_ (by first | (with_reducible exact Nat.le_refl _) | (simp; done) | (simp; omega) | omega) _) | (with_reducible refine G.trans ?_ (by assumption))))) hG8)
  clear g3x7
  have g4x8 : G (w4.alloc (.cells #[.int .i64 S1, .int .i64 T1] 23)) w8 := g4x7.trans (G.trans (by (repeat' (first | (with_reducible exact G.refl _) | (with_reducible assumption) | (with_reducible refine G.drewN ?_ _) | (with_reducible refine G.drew ?_) | (with_reducible refine G.alloc ?_ _) | (with_reducible refine G.setCell ?_ (by first | (with_reducible exact Nat.le_refl _) | (simp; done) | (simp; omega) | omega) _) | (with_reducible refine G.trans ?_ (by assumption))))) hG8)
  clear g4x7
  have g5x8 : G (w5.alloc (.cells #[.int .i64 (S1), .int .i64 (T1)] 23)) w8 := g5x7.trans (G.trans (by (repeat' (first | (with_reducible exact G.refl _) | (with_reducible assumption) | (with_reducible refine G.drewN ?_ _) | (with_reducible refine G.drew ?_) | (with_reducible refine G.alloc ?_ _) | (with_reducible refine G.setCell ?_ (by first | (with_reducible exact Nat.le_refl _) | (simp; done) | (simp; omega) | omega) _) | (with_reducible refine G.trans ?_ (by assumption))))) hG8)
  clear g5x7
  have g6x8 : G (w6.alloc (.cells #[.int .i64 S3, .int .i64 T3] 23)) w8 := g6x7.trans (G.trans (by (repeat' (first | (with_reducible exact G.refl _) | (with_reducible assumption) | (with_reducible refine G.drewN ?_ _) | (with_reducible refine G.drew ?_) | (with_reducible refine G.alloc ?_ _) | (with_reducible refine G.setCell ?_ (by first | (with_reducible exact Nat.le_refl _) | (simp; done) | (simp; omega) | omega) _) | (with_reducible refine G.trans ?_ (by assumption))))) hG8)
  clear g6x7
  have g7x8 : G (w7.alloc (.cells #[.int .i64 (S3), .int .i64 (T3)] 23)) w8 := G.trans (by (repeat' (first | (with_reducible exact G.refl _) | (with_reducible assumption) | (with_reducible refine G.drewN ?_ _) | (with_reducible refine G.drew ?_) | (with_reducible refine G.alloc ?_ _) | (with_reducible refine G.setCell ?_ (by first | (with_reducible exact Nat.le_refl _) | (simp; done) | (simp; omega) | omega) _) | (with_reducible refine G.trans ?_ (by assumption))))) hG8
  obtain ⟨c0a, c0b, c0c, c0d, c0e, c0f⟩ := trio_later g0x8
  obtain ⟨c1a, c1b, c1c, c1d⟩ := pair_later g1x8
  obtain ⟨c2a, c2b, c2c, c2d⟩ := pair_later g2x8
  obtain ⟨c3a, c3b, c3c, c3d⟩ := pair_later g3x8
  obtain ⟨c4a, c4b⟩ := box_later g4x8
  obtain ⟨c5a, c5b⟩ := box_later g5x8
  obtain ⟨c6a, c6b⟩ := box_later g6x8
  obtain ⟨c7a, c7b⟩ := box_later g7x8
  obtain ⟨A4, HA4⟩ : ∃ z : Int, Hid (z = M * (V + 1) + L * (U + 1)) := ⟨_, rfl⟩
  obtain ⟨B4, HB4⟩ : ∃ z : Int, Hid (z = (U + 1) * (V + 1)) := ⟨_, rfl⟩
  obtain ⟨S4, HS4⟩ : ∃ z : Int, Hid (z = oN A4 B4) := ⟨_, rfl⟩
  obtain ⟨T4, HT4⟩ : ∃ z : Int, Hid (z = oD A4 B4 - 1) := ⟨_, rfl⟩
  obtain ⟨E4, HE4⟩ : ∃ z : Int, Hid (z = oE A4 B4) := ⟨_, rfl⟩
  have CS4 : Cn S4 T4 := by rw [HS4.out, HT4.out]; exact cn_of A4 B4
  go_wp2_with fail
  refine (Add_any M U L V _ hM hL).mono ?_
  rintro e w9 ⟨rfl, hG9⟩
  rw [← HA4.out, ← HB4.out, ← HS4.out, ← HT4.out, ← HE4.out]
  have gw9 : G w w9 := gw8.trans (G.trans (by (repeat' (first | (with_reducible exact G.refl _) | (with_reducible assumption) | (with_reducible refine G.drewN ?_ _) | (with_reducible refine G.drew ?_) | (with_reducible refine G.alloc ?_ _) | (with_reducible refine G.setCell ?_ (by first | (with_reducible exact Nat.le_refl _) | (simp; done) | (simp; omega) | omega) _) | (with_reducible refine G.trans ?_ (by assumption))))) hG9)
  clear gw8
  clear c0a c0b c0c c0d c0e c0f c1a c1b c1c c1d c2a c2b c2c c2d c3a c3b c3c c3d c4a c4b c5a c5b c6a c6b c7a c7b
  have g0x9 : G (((w.alloc (.cells #[.int .i64 a, .int .i64 b] 35)).alloc (.cells #[.int .i64 c, .int .i64 d] 35)).alloc (.cells #[.int .i64 f, .int .i64 g] 35)) w9 := g0x8.trans (G.trans (by (repeat' (first | (with_reducible exact G.refl _) | (with_reducible assumption) | (with_reducible refine G.drewN ?_ _) | (with_reducible refine G.drew ?_) | (with_reducible refine G.alloc ?_ _) | (with_reducible refine G.setCell ?_ (by first | (with_reducible exact Nat.le_refl _) | (simp; done) | (simp; omega) | omega) _) | (with_reducible refine G.trans ?_ (by assumption))))) hG9)
  clear g0x8
  have g1x9 : G ((w1.alloc (.cells #[.int .i64 (N), .int .i64 (O)] 23)).alloc (.cells #[.int .i64 (N), .int .i64 (O + 1)] 28)) w9 := g1x8.trans (G.trans (by (repeat' (first | (with_reducible exact G.refl _) | (with_reducible assumption) | (with_reducible refine G.drewN ?_ _) | (with_reducible refine G.drew ?_) | (with_reducible refine G.alloc ?_ _) | (with_reducible refine G.setCell ?_ (by first | (with_reducible exact Nat.le_refl _) | (simp; done) | (simp; omega) | omega) _) | (with_reducible refine G.trans ?_ (by assumption))))) hG9)
  clear g1x8
  have g2x9 : G ((w2.alloc (.cells #[.int .i64 (M), .int .i64 (U)] 23)).alloc (.cells #[.int .i64 (M), .int .i64 (U + 1)] 28)) w9 := g2x8.trans (G.trans (by (repeat' (first | (with_reducible exact G.refl _) | (with_reducible assumption) | (with_reducible refine G.drewN ?_ _) | (with_reducible refine G.drew ?_) | (with_reducible refine G.alloc ?_ _) | (with_reducible refine G.setCell ?_ (by first | (with_reducible exact Nat.le_refl _) | (simp; done) | (simp; omega) | omega) _) | (with_reducible refine G.trans ?_ (by assumption))))) hG9)
  clear g2x8
  have g3x9 : G ((w3.alloc (.cells #[.int .i64 (L), .int .i64 (V)] 23)).alloc (.cells #[.int .i64 (L), .int .i64 (V + 1)] 28)) w9 := g3x8.trans (G.trans (by (repeat' (first | (with_reducible exact G.refl _) | (with_reducible assumption) | (with_reducible refine G.drewN ?_ _) | (with_reducible refine G.drew ?_) | (with_reducible refine G.alloc ?_ _) | (with_reducible refine G.setCell ?_ (by first | (with_reducible exact Nat.le_refl _) | (simp; done) | (simp; omega) | omega) _) | (with_reducible refine G.trans ?_ (by assumption))))) hG9)
  clear g3x8
  have g4x9 : G (w4.alloc (.cells #[.int .i64 S1, .int .i64 T1] 23)) w9 := g4x8.trans (G.trans (by (repeat' (first | (with_reducible exact G.refl _) | (with_reducible assumption) | (with_reducible refine G.drewN ?_ _) | (with_reducible refine G.drew ?_) | (with_reducible refine G.alloc ?_ _) | (with_reducible refine G.setCell ?_ (by first | (with_reducible exact Nat.le_refl _) | (simp; done) | (simp; omega) | omega) _) | (with_reducible refine G.trans ?_ (by assumption))))) hG9)
  clear g4x8
  have g5x9 : G (w5.alloc (.cells #[.int .i64 (S1), .int .i64 (T1)] 23)) w9 := g5x8.trans (G.trans (by (repeat' (first | (with_reducible exact G.refl _) | (with_reducible assumption) | (with_reducible refine G.drewN ?_ _) | (with_reducible refine G.drew ?_) | (with_reducible refine G.alloc ?_ _) | (with_reducible refine G.setCell ?_ (by first | (with_reducible exact Nat.le_refl _) | (simp; done) | (simp; omega) | omega) _) | (with_reducible refine G.trans ?_ (by assumption))))) hG9)
  clear g5x8
  have g6x9 : G (w6.alloc (.cells #[.int .i64 S3, .int .i64 T3] 23)) w9 := g6x8.trans (G.trans (by (repeat' (first | (with_reducible exact G.refl _) | (with_reducible assumption) | (with_reducible refine G.drewN ?_ _) | (with_reducible refine G.drew ?_) | (with_reducible refine G.alloc ?_ _) | (with_reducible refine G.setCell ?_ (by first | (with_reducible exact Nat.le_refl _) | (simp; done) | (simp; omega) | omega) _) | (with_reducible refine G.trans ?_ (by assumption))))) hG9)
  clear g6x8
  have g7x9 : G (w7.alloc (.cells #[.int .i64 (S3), .int .i64 (T3)] 23)) w9 := g7x8.trans (G.trans (by (repeat' (first | (with_reducible exact G.refl _) | (with_reducible assumption) | (with_reducible refine G.drewN ?_ _) | (with_reducible refine G.drew ?_) | (with_reducible refine G.alloc ?_ _) | (with_reducible refine G.setCell ?_ (by first | (with_reducible exact Nat.le_refl _) | (simp; done) | (simp; omega) | omega) _) | (with_reducible refine G.trans ?_ (by assumption))))) hG9)
  clear g7x8
  obtain ⟨c0a, c0b, c0c, c0d, c0e, c0f⟩ := trio_later g0x9
  obtain ⟨c1a, c1b, c1c, c1d⟩ := pair_later g1x9
  obtain ⟨c2a, c2b, c2c, c2d⟩ := pair_later g2x9
  obtain ⟨c3a, c3b, c3c, c3d⟩ := pair_later g3x9
  obtain ⟨c4a, c4b⟩ := box_later g4x9
  obtain ⟨c5a, c5b⟩ := box_later g5x9
  obtain ⟨c6a, c6b⟩ := box_later g6x9
  obtain ⟨c7a, c7b⟩ := box_later g7x9
  obtain ⟨A5, HA5⟩ : ∃ z : Int, Hid (z = S1 * (V + 1) + L * (T1 + 1)) := ⟨_, rfl⟩
  obtain ⟨B5, HB5⟩ : ∃ z : Int, Hid (z = (T1 + 1) * (V + 1)) := ⟨_, rfl⟩
  obtain ⟨S5, HS5⟩ : ∃ z : Int, Hid (z = oN A5 B5) := ⟨_, rfl⟩
  obtain ⟨T5, HT5⟩ : ∃ z : Int, Hid (z = oD A5 B5 - 1) := ⟨_, rfl⟩
  obtain ⟨E5, HE5⟩ : ∃ z : Int, Hid (z = oE A5 B5) := ⟨_, rfl⟩
  have CS5 : Cn S5 T5 := by rw [HS5.out, HT5.out]; exact cn_of A5 B5
  go_wp2_with fail
  refine (Add_any S1 T1 L V _ CS1 hL).mono ?_
  rintro e w10 ⟨rfl, hG10⟩
  rw [← HA5.out, ← HB5.out, ← HS5.out, ← HT5.out, ← HE5.out]
  have gw10 : G w w10 := gw9.trans (G.trans (by (repeat' (first | (with_reducible exact G.refl _) | (with_reducible assumption) | (with_reducible refine G.drewN ?_ _) | (with_reducible refine G.drew ?_) | (with_reducible refine G.alloc ?_ _) | (with_reducible refine G.setCell ?_ (by first | (with_reducible exact Nat.le_refl _) | (simp; done) | (simp; omega) | omega) _) | (with_reducible refine G.trans ?_ (by assumption))))) hG10)
  clear gw9
  clear c0a c0b c0c c0d c0e c0f c1a c1b c1c c1d c2a c2b c2c c2d c3a c3b c3c c3d c4a c4b c5a c5b c6a c6b c7a c7b
  have g0x10 : G (((w.alloc (.cells #[.int .i64 a, .int .i64 b] 35)).alloc (.cells #[.int .i64 c, .int .i64 d] 35)).alloc (.cells #[.int .i64 f, .int .i64 g] 35)) w10 := g0x9.trans (G.trans (by (repeat' (first | (with_reducible exact G.refl _) | (with_reducible assumption) | (with_reducible refine G.drewN ?_ _) | (with_reducible refine G.drew ?_) | (with_reducible refine G.alloc ?_ _) | (with_reducible refine G.setCell ?_ (by first | (with_reducible exact Nat.le_refl _) | (simp; done) | (simp; omega) | omega) _) | (with_reducible refine G.trans ?_ (by assumption))))) hG10)
  clear g0x9
  have g1x10 : G ((w1.alloc (.cells #[.int .i64 (N), .int .i64 (O)] 23)).alloc (.cells #[.int .i64 (N), .int .i64 (O + 1)] 28)) w10 := g1x9.trans (G.trans (by (repeat' (first | (with_reducible exact G.refl _) | (with_reducible assumption) | (with_reducible refine G.drewN ?_ _) | (with_reducible refine G.drew ?_) | (with_reducible refine G.alloc ?_ _) | (with_reducible refine G.setCell ?_ (by first | (with_reducible exact Nat.le_refl _) | (simp; done) | (simp; omega) | omega) _) | (with_reducible refine G.trans ?_ (by assumption))))) hG10)
  clear g1x9
  have g2x10 : G ((w2.alloc (.cells #[.int .i64 (M), .int .i64 (U)] 23)).alloc (.cells #[.int .i64 (M), .int .i64 (U + 1)] 28)) w10 := g2x9.trans (G.trans (by (repeat' (first | (with_reducible exact G.refl _) | (with_reducible assumption) | (with_reducible refine G.drewN ?_ _) | (with_reducible refine G.drew ?_) | (with_reducible refine G.alloc ?_ _) | (with_reducible refine G.setCell ?_ (by first | (with_reducible exact Nat.le_refl _) | (simp; done) | (simp; omega) | omega) _) | (with_reducible refine G.trans ?_ (by assumption))))) hG10)
  clear g2x9
  have g3x10 : G ((w3.alloc (.cells #[.int .i64 (L), .int .i64 (V)] 23)).alloc (.cells #[.int .i64 (L), .int .i64 (V + 1)] 28)) w10 := g3x9.trans (G.trans (by (repeat' (first | (with_reducible exact G.refl _) | (with_reducible assumption) | (with_reducible refine G.drewN ?_ _) | (with_reducible refine G.drew ?_) | (with_reducible refine G.alloc ?_ _) | (with_reducible refine G.setCell ?_ (by first | (with_reducible exact Nat.le_refl _) | (simp; done) | (simp; omega) | omega) _) | (with_reducible refine G.trans ?_ (by assumption))))) hG10)
  clear g3x9
  have g4x10 : G (w4.alloc (.cells #[.int .i64 S1, .int .i64 T1] 23)) w10 := g4x9.trans (G.trans (by (repeat' (first | (with_reducible exact G.refl _) | (with_reducible assumption) | (with_reducible refine G.drewN ?_ _) | (with_reducible refine G.drew ?_) | (with_reducible refine G.alloc ?_ _) | (with_reducible refine G.setCell ?_ (by first | (with_reducible exact Nat.le_refl _) | (simp; done) | (simp; omega) | omega) _) | (with_reducible refine G.trans ?_ (by assumption))))) hG10)
  clear g4x9
  have g5x10 : G (w5.alloc (.cells #[.int .i64 (S1), .int .i64 (T1)] 23)) w10 := g5x9.trans (G.trans (by (repeat' (first | (with_reducible exact G.refl _) | (with_reducible assumption) | (with_reducible refine G.drewN ?_ _) | (with_reducible refine G.drew ?_) | (with_reducible refine G.alloc ?_ _) | (with_reducible refine G.setCell ?_ (by first | (with_reducible exact Nat.le_refl _) | (simp; done) | (simp; omega) | omega) _) | (with_reducible refine G.trans ?_ (by assumption))))) hG10)
  clear g5x9
  have g6x10 : G (w6.alloc (.cells #[.int .i64 S3, .int .i64 T3] 23)) w10 := g6x9.trans (G.trans (by (repeat' (first | (with_reducible exact G.refl _) | (with_reducible assumption) | (with_reducible refine G.drewN ?_ _) | (with_reducible refine G.drew ?_) | (with_reducible refine G.alloc ?_ _) | (with_reducible refine G.setCell ?_ (by first | (with_reducible exact Nat.le_refl _) | (simp; done) | (simp; omega) | omega) _) | (with_reducible refine G.trans ?_ (by assumption))))) hG10)
  clear g6x9
  have g7x10 : G (w7.alloc (.cells #[.int .i64 (S3), .int .i64 (T3)] 23)) w10 := g7x9.trans (G.trans (by (repeat' (first | (with_reducible exact G.refl _) | (with_reducible assumption) | (with_reducible refine G.drewN ?_ _) | (with_reducible refine G.drew ?_) | (with_reducible refine G.alloc ?_ _) | (with_reducible refine G.setCell ?_ (by first | (with_reducible exact Nat.le_refl _) | (simp; done) | (simp; omega) | omega) _) | (with_reducible refine G.trans ?_ (by assumption))))) hG10)
  clear g7x9
  have g8x10 : G (w9.alloc (.cells #[.int .i64 S4, .int .i64 T4] 23)) w10 := G.trans (by (repeat' (first | (with_reducible exact G.refl _) | (with_reducible assumption) | (with_reducible refine G.drewN ?_ _) | (with_reducible refine G.drew ?_) | (with_reducible refine G.alloc ?_ _) | (with_reducible refine G.setCell ?_ (by first | (with_reducible exact Nat.le_refl _) | (simp; done) | (simp; omega) | omega) _) | (with_reducible refine G.trans ?_ (by assumption))))) hG10
  obtain ⟨c0a, c0b, c0c, c0d, c0e, c0f⟩ := trio_later g0x10
  obtain ⟨c1a, c1b, c1c, c1d⟩ := pair_later g1x10
  obtain ⟨c2a, c2b, c2c, c2d⟩ := pair_later g2x10
  obtain ⟨c3a, c3b, c3c, c3d⟩ := pair_later g3x10
  obtain ⟨c4a, c4b⟩ := box_later g4x10
  obtain ⟨c5a, c5b⟩ := box_later g5x10
  obtain ⟨c6a, c6b⟩ := box_later g6x10
  obtain ⟨c7a, c7b⟩ := box_later g7x10
  obtain ⟨c8a, c8b⟩ := box_later g8x10
  obtain ⟨A6, HA6⟩ : ∃ z : Int, Hid (z = N * (T4 + 1) + S4 * (O + 1)) := ⟨_, rfl⟩
  obtain ⟨B6, HB6⟩ : ∃ z : Int, Hid (z = (O + 1) * (T4 + 1)) := ⟨_, rfl⟩
  obtain ⟨S6, HS6⟩ : ∃ z : Int, Hid (z = oN A6 B6) := ⟨_, rfl⟩
  obtain ⟨T6, HT6⟩ : ∃ z : Int, Hid (z = oD A6 B6 - 1) := ⟨_, rfl⟩
  obtain ⟨E6, HE6⟩ : ∃ z : Int, Hid (z = oE A6 B6) := ⟨_, rfl⟩
  have CS6 : Cn S6 T6 := by rw [HS6.out, HT6.out]; exact cn_of A6 B6
  go_wp2_with fail
  refine (Add_any N O S4 T4 _ hN CS4).mono ?_
  rintro e w11 ⟨rfl, hG11⟩
  rw [← HA6.out, ← HB6.out, ← HS6.out, ← HT6.out, ← HE6.out]
  have gw11 : G w w11 := gw10.trans (G.trans (by (repeat' (first | (with_reducible exact G.refl _) | (with_reducible assumption) | (with_reducible refine G.drewN ?_ _) | (with_reducible refine G.drew ?_) | (with_reducible refine G.alloc ?_ _) | (with_reducible refine G.setCell ?_ (by first | (with_reducible exact Nat.le_refl _) | (simp; done) | (simp; omega) | omega) _) | (with_reducible refine G.trans ?_ (by assumption))))) hG11)
  clear gw10
  clear c0a c0b c0c c0d c0e c0f c1a c1b c1c c1d c2a c2b c2c c2d c3a c3b c3c c3d c4a c4b c5a c5b c6a c6b c7a c7b c8a c8b
  have g0x11 : G (((w.alloc (.cells #[.int .i64 a, .int .i64 b] 35)).alloc (.cells #[.int .i64 c, .int .i64 d] 35)).alloc (.cells #[.int .i64 f, .int .i64 g] 35)) w11 := g0x10.trans (G.trans (by (repeat' (first | (with_reducible exact G.refl _) | (with_reducible assumption) | (with_reducible refine G.drewN ?_ _) | (with_reducible refine G.drew ?_) | (with_reducible refine G.alloc ?_ _) | (with_reducible refine G.setCell ?_ (by first | (with_reducible exact Nat.le_refl _) | (simp; done) | (simp; omega) | omega) _) | (with_reducible refine G.trans ?_ (by assumption))))) hG11)
  clear g0x10
  have g1x11 : G ((w1.alloc (.cells #[.int .i64 (N), .int .i64 (O)] 23)).alloc (.cells #[.int .i64 (N), .int .i64 (O + 1)] 28)) w11 := g1x10.trans (G.trans (by (repeat' (first | (with_reducible exact G.refl _) | (with_reducible assumption) | (with_reducible refine G.drewN ?_ _) | (with_reducible refine G.drew ?_) | (with_reducible refine G.alloc ?_ _) | (with_reducible refine G.setCell ?_ (by first | (with_reducible exact Nat.le_refl _) | (simp; done) | (simp; omega) | omega) _) | (with_reducible refine G.trans ?_ (by assumption))))) hG11)
  clear g1x10
  have g2x11 : G ((w2.alloc (.cells #[.int .i64 (M), .int .i64 (U)] 23)).alloc (.cells #[.int .i64 (M), .int .i64 (U + 1)] 28)) w11 := g2x10.trans (G.trans (by (repeat' (first | (with_reducible exact G.refl _) | (with_reducible assumption) | (with_reducible refine G.drewN ?_ _) | (with_reducible refine G.drew ?_) | (with_reducible refine G.alloc ?_ _) | (with_reducible refine G.setCell ?_ (by first | (with_reducible exact Nat.le_refl _) | (simp; done) | (simp; omega) | omega) _) | (with_reducible refine G.trans ?_ (by assumption))))) hG11)
  clear g2x10
  have g3x11 : G ((w3.alloc (.cells #[.int .i64 (L), .int .i64 (V)] 23)).alloc (.cells #[.int .i64 (L), .int .i64 (V + 1)] 28)) w11 := g3x10.trans (G.trans (by (repeat' (first | (with_reducible exact G.refl _) | (with_reducible assumption) | (with_reducible refine G.drewN ?_ _) | (with_reducible refine G.drew ?_) | (with_reducible refine G.alloc ?_ _) | (with_reducible refine G.setCell ?_ (by first | (with_reducible exact Nat.le_refl _) | (simp; done) | (simp; omega) | omega) _) | (with_reducible refine G.trans ?_ (by assumption))))) hG11)
  clear g3x10
  have g4x11 : G (w4.alloc (.cells #[.int .i64 S1, .int .i64 T1] 23)) w11 := g4x10.trans (G.trans (by (repeat' (first | (with_reducible exact G.refl _) | (with_reducible assumption) | (with_reducible refine G.drewN ?_ _) | (with_reducible refine G.drew ?_) | (with_reducible refine G.alloc ?_ _) | (with_reducible refine G.setCell ?_ (by first | (with_reducible exact Nat.le_refl _) | (simp; done) | (simp; omega) | omega) _) | (with_reducible refine G.trans ?_ (by assumption))))) hG11)
  clear g4x10
  have g5x11 : G (w5.alloc (.cells #[.int .i64 (S1), .int .i64 (T1)] 23)) w11 := g5x10.trans (G.trans (by (repeat' (first | (with_reducible exact G.refl _) | (with_reducible assumption) | (with_reducible refine G.drewN ?_ _) | (with_reducible refine G.drew ?_) | (with_reducible refine G.alloc ?_ _) | (with_reducible refine G.setCell ?_ (by first | (with_reducible exact Nat.le_refl _) | (simp; done) | (simp; omega) | omega) _) | (with_reducible refine G.trans ?_ (by assumption))))) hG11)
  clear g5x10
  have g6x11 : G (w6.alloc (.cells #[.int .i64 S3, .int .i64 T3] 23)) w11 := g6x10.trans (G.trans (by (repeat' (first | (with_reducible exact G.refl _) | (with_reducible assumption) | (with_reducible refine G.drewN ?_ _) | (with_reducible refine G.drew ?_) | (with_reducible refine G.alloc ?_ _) | (with_reducible refine G.setCell ?_ (by first | (with_reducible exact Nat.le_refl _) | (simp; done) | (simp; omega) | omega) _) | (with_reducible refine G.trans ?_ (by assumption))))) hG11)
  clear g6x10
  have g7x11 : G (w7.alloc (.cells #[.int .i64 (S3), .int .i64 (T3)] 23)) w11 := g7x10.trans (G.trans (by (repeat' (first | (with_reducible exact G.refl _) | (with_reducible assumption) | (with_reducible refine G.drewN ?_ _) | (with_reducible refine G.drew ?_) | (with_reducible refine G.alloc ?_ _) | (with_reducible refine G.setCell ?_ (by first | (with_reducible exact Nat.le_refl _) | (simp; done) | (simp; omega) | omega) _) | (with_reducible refine G.trans ?_ (by assumption))))) hG11)
  clear g7x10
  have g8x11 : G (w9.alloc (.cells #[.int .i64 S4, .int .i64 T4] 23)) w11 := g8x10.trans (G.trans (by (repeat' (first | (with_reducible exact G.refl _) | (with_reducible assumption) | (with_reducible refine G.drewN ?_ _) | (with_reducible refine G.drew ?_) | (with_reducible refine G.alloc ?_ _) | (with_reducible refine G.setCell ?_ (by first | (with_reducible exact Nat.le_refl _) | (simp; done) | (simp; omega) | omega) _) | (with_reducible refine G.trans ?_ (by assumption))))) hG11)
  clear g8x10
  have g9x11 : G (w10.alloc (.cells #[.int .i64 S5, .int .i64 T5] 23)) w11 := G.trans (by (repeat' (first | (with_reducible exact G.refl _) | (with_reducible assumption) | (with_reducible refine G.drewN ?_ _) | (with_reducible refine G.drew ?_) | (with_reducible refine G.alloc ?_ _) | (with_reducible refine G.setCell ?_ (by first | (with_reducible exact Nat.le_refl _) | (simp; done) | (simp; omega) | omega) _) | (with_reducible refine G.trans ?_ (by assumption))))) hG11
  obtain ⟨c0a, c0b, c0c, c0d, c0e, c0f⟩ := trio_later g0x11
  obtain ⟨c1a, c1b, c1c, c1d⟩ := pair_later g1x11
  obtain ⟨c2a, c2b, c2c, c2d⟩ := pair_later g2x11
  obtain ⟨c3a, c3b, c3c, c3d⟩ := pair_later g3x11
  obtain ⟨c4a, c4b⟩ := box_later g4x11
  obtain ⟨c5a, c5b⟩ := box_later g5x11
  obtain ⟨c6a, c6b⟩ := box_later g6x11
  obtain ⟨c7a, c7b⟩ := box_later g7x11
  obtain ⟨c8a, c8b⟩ := box_later g8x11
  obtain ⟨c9a, c9b⟩ := box_later g9x11
  have P1 : E1 = 0 → E4 = 0 → E5 = E6 ∧ S5 = S6 ∧ T5 = T6 := fun z y => field_assoc hN hM hL HA.out HB.out HS1.out HT1.out HE1.out HA4.out HB4.out HS4.out HT4.out HE4.out HA5.out HB5.out HS5.out HT5.out HE5.out HA6.out HB6.out HS6.out HT6.out HE6.out z y
  have HP1 := Lib.hid P1
  clear P1
  skip
  by_cases y1 : E1 = 0
  · by_cases y4 : E4 = 0
    · obtain ⟨q1, q2, q3⟩ := HP1.out y1 y4
      by_cases y5 : E5 = 0
      · have y6 : E6 = 0 := by omega
        subst q2 q3
        clear q1
        obtain ⟨A7, HA7⟩ : ∃ z : Int, Hid (z = N * L) := ⟨_, rfl⟩
        obtain ⟨B7, HB7⟩ : ∃ z : Int, Hid (z = (O + 1) * (V + 1)) := ⟨_, rfl⟩
        obtain ⟨S7, HS7⟩ : ∃ z : Int, Hid (z = oN A7 B7) := ⟨_, rfl⟩
        obtain ⟨T7, HT7⟩ : ∃ z : Int, Hid (z = oD A7 B7 - 1) := ⟨_, rfl⟩
        obtain ⟨E7, HE7⟩ : ∃ z : Int, Hid (z = oE A7 B7) := ⟨_, rfl⟩
        have CS7 : Cn S7 T7 := by rw [HS7.out, HT7.out]; exact cn_of A7 B7
        go_wp2_with fail
        refine (Mul_any N O L V _ hN hL).mono ?_
        rintro e w12 ⟨rfl, hG12⟩
        rw [← HA7.out, ← HB7.out, ← HS7.out, ← HT7.out, ← HE7.out]
        have gw12 : G w w12 := gw11.trans (G.trans (by (repeat' (first | (with_reducible exact G.refl _) | (with_reducible assumption) | (with_reducible refine G.drewN ?_ _) | (with_reducible refine G.drew ?_) | (with_reducible refine G.alloc ?_ _) | (with_reducible refine G.setCell ?_ (by first | (with_reducible exact Nat.le_refl _) | (simp; done) | (simp; omega) | omega) _) | (with_reducible refine G.trans ?_ (by assumption))))) hG12)
        clear gw11
        clear c0a c0b c0c c0d c0e c0f c1a c1b c1c c1d c2a c2b c2c c2d c3a c3b c3c c3d c4a c4b c5a c5b c6a c6b c7a c7b c8a c8b c9a c9b
        have g0x12 : G (((w.alloc (.cells #[.int .i64 a, .int .i64 b] 35)).alloc (.cells #[.int .i64 c, .int .i64 d] 35)).alloc (.cells #[.int .i64 f, .int .i64 g] 35)) w12 := g0x11.trans (G.trans (by (repeat' (first | (with_reducible exact G.refl _) | (with_reducible assumption) | (with_reducible refine G.drewN ?_ _) | (with_reducible refine G.drew ?_) | (with_reducible refine G.alloc ?_ _) | (with_reducible refine G.setCell ?_ (by first | (with_reducible exact Nat.le_refl _) | (simp; done) | (simp; omega) | omega) _) | (with_reducible refine G.trans ?_ (by assumption))))) hG12)
        clear g0x11
        have g1x12 : G ((w1.alloc (.cells #[.int .i64 (N), .int .i64 (O)] 23)).alloc (.cells #[.int .i64 (N), .int .i64 (O + 1)] 28)) w12 := g1x11.trans (G.trans (by (repeat' (first | (with_reducible exact G.refl _) | (with_reducible assumption) | (with_reducible refine G.drewN ?_ _) | (with_reducible refine G.drew ?_) | (with_reducible refine G.alloc ?_ _) | (with_reducible refine G.setCell ?_ (by first | (with_reducible exact Nat.le_refl _) | (simp; done) | (simp; omega) | omega) _) | (with_reducible refine G.trans ?_ (by assumption))))) hG12)
        clear g1x11
        have g2x12 : G ((w2.alloc (.cells #[.int .i64 (M), .int .i64 (U)] 23)).alloc (.cells #[.int .i64 (M), .int .i64 (U + 1)] 28)) w12 := g2x11.trans (G.trans (by (repeat' (first | (with_reducible exact G.refl _) | (with_reducible assumption) | (with_reducible refine G.drewN ?_ _) | (with_reducible refine G.drew ?_) | (with_reducible refine G.alloc ?_ _) | (with_reducible refine G.setCell ?_ (by first | (with_reducible exact Nat.le_refl _) | (simp; done) | (simp; omega) | omega) _) | (with_reducible refine G.trans ?_ (by assumption))))) hG12)
        clear g2x11
        have g3x12 : G ((w3.alloc (.cells #[.int .i64 (L), .int .i64 (V)] 23)).alloc (.cells #[.int .i64 (L), .int .i64 (V + 1)] 28)) w12 := g3x11.trans (G.trans (by (repeat' (first | (with_reducible exact G.refl _) | (with_reducible assumption) | (with_reducible refine G.drewN ?_ _) | (with_reducible refine G.drew ?_) | (with_reducible refine G.alloc ?_ _) | (with_reducible refine G.setCell ?_ (by first | (with_reducible exact Nat.le_refl _) | (simp; done) | (simp; omega) | omega) _) | (with_reducible refine G.trans ?_ (by assumption))))) hG12)
        clear g3x11
        have g4x12 : G (w4.alloc (.cells #[.int .i64 S1, .int .i64 T1] 23)) w12 := g4x11.trans (G.trans (by (repeat' (first | (with_reducible exact G.refl _) | (with_reducible assumption) | (with_reducible refine G.drewN ?_ _) | (with_reducible refine G.drew ?_) | (with_reducible refine G.alloc ?_ _) | (with_reducible refine G.setCell ?_ (by first | (with_reducible exact Nat.le_refl _) | (simp; done) | (simp; omega) | omega) _) | (with_reducible refine G.trans ?_ (by assumption))))) hG12)
        clear g4x11
        have g5x12 : G (w5.alloc (.cells #[.int .i64 (S1), .int .i64 (T1)] 23)) w12 := g5x11.trans (G.trans (by (repeat' (first | (with_reducible exact G.refl _) | (with_reducible assumption) | (with_reducible refine G.drewN ?_ _) | (with_reducible refine G.drew ?_) | (with_reducible refine G.alloc ?_ _) | (with_reducible refine G.setCell ?_ (by first | (with_reducible exact Nat.le_refl _) | (simp; done) | (simp; omega) | omega) _) | (with_reducible refine G.trans ?_ (by assumption))))) hG12)
        clear g5x11
        have g6x12 : G (w6.alloc (.cells #[.int .i64 S3, .int .i64 T3] 23)) w12 := g6x11.trans (G.trans (by (repeat' (first | (with_reducible exact G.refl _) | (with_reducible assumption) | (with_reducible refine G.drewN ?_ _) | (with_reducible refine G.drew ?_) | (with_reducible refine G.alloc ?_ _) | (with_reducible refine G.setCell ?_ (by first | (with_reducible exact Nat.le_refl _) | (simp; done) | (simp; omega) | omega) _) | (with_reducible refine G.trans ?_ (by assumption))))) hG12)
        clear g6x11
        have g7x12 : G (w7.alloc (.cells #[.int .i64 (S3), .int .i64 (T3)] 23)) w12 := g7x11.trans (G.trans (by (repeat' (first | (with_reducible exact G.refl _) | (with_reducible assumption) | (with_reducible refine G.drewN ?_ _) | (with_reducible refine G.drew ?_) | (with_reducible refine G.alloc ?_ _) | (with_reducible refine G.setCell ?_ (by first | (with_reducible exact Nat.le_refl _) | (simp; done) | (simp; omega) | omega) _) | (with_reducible refine G.trans ?_ (by assumption))))) hG12)
        clear g7x11
        have g8x12 : G (w9.alloc (.cells #[.int .i64 S4, .int .i64 T4] 23)) w12 := g8x11.trans (G.trans (by (repeat' (first | (with_reducible exact G.refl _) | (with_reducible assumption) | (with_reducible refine G.drewN ?_ _) | (with_reducible refine G.drew ?_) | (with_reducible refine G.alloc ?_ _) | (with_reducible refine G.setCell ?_ (by first | (with_reducible exact Nat.le_refl _) | (simp; done) | (simp; omega) | omega) _) | (with_reducible refine G.trans ?_ (by assumption))))) hG12)
        clear g8x11
        have g9x12 : G (w10.alloc (.cells #[.int .i64 S5, .int .i64 T5] 23)) w12 := g9x11.trans (G.trans (by (repeat' (first | (with_reducible exact G.refl _) | (with_reducible assumption) | (with_reducible refine G.drewN ?_ _) | (with_reducible refine G.drew ?_) | (with_reducible refine G.alloc ?_ _) | (with_reducible refine G.setCell ?_ (by first | (with_reducible exact Nat.le_refl _) | (simp; done) | (simp; omega) | omega) _) | (with_reducible refine G.trans ?_ (by assumption))))) hG12)
        clear g9x11
        have g10x12 : G (w11.alloc (.cells #[.int .i64 S5, .int .i64 T5] 23)) w12 := G.trans (by (repeat' (first | (with_reducible exact G.refl _) | (with_reducible assumption) | (with_reducible refine G.drewN ?_ _) | (with_reducible refine G.drew ?_) | (with_reducible refine G.alloc ?_ _) | (with_reducible refine G.setCell ?_ (by first | (with_reducible exact Nat.le_refl _) | (simp; done) | (simp; omega) | omega) _) | (with_reducible refine G.trans ?_ (by assumption))))) hG12
        obtain ⟨c0a, c0b, c0c, c0d, c0e, c0f⟩ := trio_later g0x12
        obtain ⟨c1a, c1b, c1c, c1d⟩ := pair_later g1x12
        obtain ⟨c2a, c2b, c2c, c2d⟩ := pair_later g2x12
        obtain ⟨c3a, c3b, c3c, c3d⟩ := pair_later g3x12
        obtain ⟨c4a, c4b⟩ := box_later g4x12
        obtain ⟨c5a, c5b⟩ := box_later g5x12
        obtain ⟨c6a, c6b⟩ := box_later g6x12
        obtain ⟨c7a, c7b⟩ := box_later g7x12
        obtain ⟨c8a, c8b⟩ := box_later g8x12
        obtain ⟨c9a, c9b⟩ := box_later g9x12
        obtain ⟨c10a, c10b⟩ := box_later g10x12
        obtain ⟨A8, HA8⟩ : ∃ z : Int, Hid (z = N * S4) := ⟨_, rfl⟩
        obtain ⟨B8, HB8⟩ : ∃ z : Int, Hid (z = (O + 1) * (T4 + 1)) := ⟨_, rfl⟩
        obtain ⟨S8, HS8⟩ : ∃ z : Int, Hid (z = oN A8 B8) := ⟨_, rfl⟩
        obtain ⟨T8, HT8⟩ : ∃ z : Int, Hid (z = oD A8 B8 - 1) := ⟨_, rfl⟩
        obtain ⟨E8, HE8⟩ : ∃ z : Int, Hid (z = oE A8 B8) := ⟨_, rfl⟩
        have CS8 : Cn S8 T8 := by rw [HS8.out, HT8.out]; exact cn_of A8 B8
        go_wp2_with fail
        refine (Mul_any N O S4 T4 _ hN CS4).mono ?_
        rintro e w13 ⟨rfl, hG13⟩
        rw [← HA8.out, ← HB8.out, ← HS8.out, ← HT8.out, ← HE8.out]
        have gw13 : G w w13 := gw12.trans (G.trans (by (repeat' (first | (with_reducible exact G.refl _) | (with_reducible assumption) | (with_reducible refine G.drewN ?_ _) | (with_reducible refine G.drew ?_) | (with_reducible refine G.alloc ?_ _) | (with_reducible refine G.setCell ?_ (by first | (with_reducible exact Nat.le_refl _) | (simp; done) | (simp; omega) | omega) _) | (with_reducible refine G.trans ?_ (by assumption))))) hG13)
        clear gw12
        clear c0a c0b c0c c0d c0e c0f c1a c1b c1c c1d c2a c2b c2c c2d c3a c3b c3c c3d c4a c4b c5a c5b c6a c6b c7a c7b c8a c8b c9a c9b c10a c10b
        have g0x13 : G (((w.alloc (.cells #[.int .i64 a, .int .i64 b] 35)).alloc (.cells #[.int .i64 c, .int .i64 d] 35)).alloc (.cells #[.int .i64 f, .int .i64 g] 35)) w13 := g0x12.trans (G.trans (by (repeat' (first | (with_reducible exact G.refl _) | (with_reducible assumption) | (with_reducible refine G.drewN ?_ _) | (with_reducible refine G.drew ?_) | (with_reducible refine G.alloc ?_ _) | (with_reducible refine G.setCell ?_ (by first | (with_reducible exact Nat.le_refl _) | (simp; done) | (simp; omega) | omega) _) | (with_reducible refine G.trans ?_ (by assumption))))) hG13)
        clear g0x12
        have g1x13 : G ((w1.alloc (.cells #[.int .i64 (N), .int .i64 (O)] 23)).alloc (.cells #[.int .i64 (N), .int .i64 (O + 1)] 28)) w13 := g1x12.trans (G.trans (by (repeat' (first | (with_reducible exact G.refl _) | (with_reducible assumption) | (with_reducible refine G.drewN ?_ _) | (with_reducible refine G.drew ?_) | (with_reducible refine G.alloc ?_ _) | (with_reducible refine G.setCell ?_ (by first | (with_reducible exact Nat.le_refl _) | (simp; done) | (simp; omega) | omega) _) | (with_reducible refine G.trans ?_ (by assumption))))) hG13)
        clear g1x12
        have g2x13 : G ((w2.alloc (.cells #[.int .i64 (M), .int .i64 (U)] 23)).alloc (.cells #[.int .i64 (M), .int .i64 (U + 1)] 28)) w13 := g2x12.trans (G.trans (by (repeat' (first | (with_reducible exact G.refl _) | (with_reducible assumption) | (with_reducible refine G.drewN ?_ _) | (with_reducible refine G.drew ?_) | (with_reducible refine G.alloc ?_ _) | (with_reducible refine G.setCell ?_ (by first | (with_reducible exact Nat.le_refl _) | (simp; done) | (simp; omega) | omega) _) | (with_reducible refine G.trans ?_ (by assumption))))) hG13)
        clear g2x12
        have g3x13 : G ((w3.alloc (.cells #[.int .i64 (L), .int .i64 (V)] 23)).alloc (.cells #[.int .i64 (L), .int .i64 (V + 1)] 28)) w13 := g3x12.trans (G.trans (by (repeat' (first | (with_reducible exact G.refl _) | (with_reducible assumption) | (with_reducible refine G.drewN ?_ _) | (with_reducible refine G.drew ?_) | (with_reducible refine G.alloc ?_ _) | (with_reducible refine G.setCell ?_ (by first | (with_reducible exact Nat.le_refl _) | (simp; done) | (simp; omega) | omega) _) | (with_reducible refine G.trans ?_ (by assumption))))) hG13)
        clear g3x12
        have g4x13 : G (w4.alloc (.cells #[.int .i64 S1, .int .i64 T1] 23)) w13 := g4x12.trans (G.trans (by (repeat' (first | (with_reducible exact G.refl _) | (with_reducible assumption) | (with_reducible refine G.drewN ?_ _) | (with_reducible refine G.drew ?_) | (with_reducible refine G.alloc ?_ _) | (with_reducible refine G.setCell ?_ (by first | (with_reducible exact Nat.le_refl _) | (simp; done) | (simp; omega) | omega) _) | (with_reducible refine G.trans ?_ (by assumption))))) hG13)
        clear g4x12
        have g5x13 : G (w5.alloc (.cells #[.int .i64 (S1), .int .i64 (T1)] 23)) w13 := g5x12.trans (G.trans (by (repeat' (first | (with_reducible exact G.refl _) | (with_reducible assumption) | (with_reducible refine G.drewN ?_ _) | (with_reducible refine G.drew ?_) | (with_reducible refine G.alloc ?_ _) | (with_reducible refine G.setCell ?_ (by first | (with_reducible exact Nat.le_refl _) | (simp; done) | (simp; omega) | omega) _) | (with_reducible refine G.trans ?_ (by assumption))))) hG13)
        clear g5x12
        have g6x13 : G (w6.alloc (.cells #[.int .i64 S3, .int .i64 T3] 23)) w13 := g6x12.trans (G.trans (by (repeat' (first | (with_reducible exact G.refl _) | (with_reducible assumption) | (with_reducible refine G.drewN ?_ _) | (with_reducible refine G.drew ?_) | (with_reducible refine G.alloc ?_ _) | (with_reducible refine G.setCell ?_ (by first | (with_reducible exact Nat.le_refl _) | (simp; done) | (simp; omega) | omega) _) | (with_reducible refine G.trans ?_ (by assumption))))) hG13)
        clear g6x12
        have g7x13 : G (w7.alloc (.cells #[.int .i64 (S3), .int .i64 (T3)] 23)) w13 := g7x12.trans (G.trans (by (repeat' (first | (with_reducible exact G.refl _) | (with_reducible assumption) | (with_reducible refine G.drewN ?_ _) | (with_reducible refine G.drew ?_) | (with_reducible refine G.alloc ?_ _) | (with_reducible refine G.setCell ?_ (by first | (with_reducible exact Nat.le_refl _) | (simp; done) | (simp; omega) | omega) _) | (with_reducible refine G.trans ?_ (by assumption))))) hG13)
        clear g7x12
        have g8x13 : G (w9.alloc (.cells #[.int .i64 S4, .int .i64 T4] 23)) w13 := g8x12.trans (G.trans (by (repeat' (first | (with_reducible exact G.refl _) | (with_reducible assumption) | (with_reducible refine G.drewN ?_ _) | (with_reducible refine G.drew ?_) | (with_reducible refine G.alloc ?_ _) | (with_reducible refine G.setCell ?_ (by first | (with_reducible exact Nat.le_refl _) | (simp; done) | (simp; omega) | omega) _) | (with_reducible refine G.trans ?_ (by assumption))))) hG13)
        clear g8x12
        have g9x13 : G (w10.alloc (.cells #[.int .i64 S5, .int .i64 T5] 23)) w13 := g9x12.trans (G.trans (by (repeat' (first | (with_reducible exact G.refl _) | (with_reducible assumption) | (with_reducible refine G.drewN ?_ _) | (with_reducible refine G.drew ?_) | (with_reducible refine G.alloc ?_ _) | (with_reducible refine G.setCell ?_ (by first | (with_reducible exact Nat.le_refl _) | (simp; done) | (simp; omega) | omega) _) | (with_reducible refine G.trans ?_ (by assumption))))) hG13)
        clear g9x12
        have g10x13 : G (w11.alloc (.cells #[.int .i64 S5, .int .i64 T5] 23)) w13 := g10x12.trans (G.trans (by (repeat' (first | (with_reducible exact G.refl _) | (with_reducible assumption) | (with_reducible refine G.drewN ?_ _) | (with_reducible refine G.drew ?_) | (with_reducible refine G.alloc ?_ _) | (with_reducible refine G.setCell ?_ (by first | (with_reducible exact Nat.le_refl _) | (simp; done) | (simp; omega) | omega) _) | (with_reducible refine G.trans ?_ (by assumption))))) hG13)
        clear g10x12
        have g11x13 : G (w12.alloc (.cells #[.int .i64 S7, .int .i64 T7] 23)) w13 := G.trans (by (repeat' (first | (with_reducible exact G.refl _) | (with_reducible assumption) | (with_reducible refine G.drewN ?_ _) | (with_reducible refine G.drew ?_) | (with_reducible refine G.alloc ?_ _) | (with_reducible refine G.setCell ?_ (by first | (with_reducible exact Nat.le_refl _) | (simp; done) | (simp; omega) | omega) _) | (with_reducible refine G.trans ?_ (by assumption))))) hG13
        obtain ⟨c0a, c0b, c0c, c0d, c0e, c0f⟩ := trio_later g0x13
        obtain ⟨c1a, c1b, c1c, c1d⟩ := pair_later g1x13
        obtain ⟨c2a, c2b, c2c, c2d⟩ := pair_later g2x13
        obtain ⟨c3a, c3b, c3c, c3d⟩ := pair_later g3x13
        obtain ⟨c4a, c4b⟩ := box_later g4x13
        obtain ⟨c5a, c5b⟩ := box_later g5x13
        obtain ⟨c6a, c6b⟩ := box_later g6x13
        obtain ⟨c7a, c7b⟩ := box_later g7x13
        obtain ⟨c8a, c8b⟩ := box_later g8x13
        obtain ⟨c9a, c9b⟩ := box_later g9x13
        obtain ⟨c10a, c10b⟩ := box_later g10x13
        obtain ⟨c11a, c11b⟩ := box_later g11x13
        obtain ⟨A9, HA9⟩ : ∃ z : Int, Hid (z = S3 * (T7 + 1) + S7 * (T3 + 1)) := ⟨_, rfl⟩
        obtain ⟨B9, HB9⟩ : ∃ z : Int, Hid (z = (T3 + 1) * (T7 + 1)) := ⟨_, rfl⟩
        obtain ⟨S9, HS9⟩ : ∃ z : Int, Hid (z = oN A9 B9) := ⟨_, rfl⟩
        obtain ⟨T9, HT9⟩ : ∃ z : Int, Hid (z = oD A9 B9 - 1) := ⟨_, rfl⟩
        obtain ⟨E9, HE9⟩ : ∃ z : Int, Hid (z = oE A9 B9) := ⟨_, rfl⟩
        have CS9 : Cn S9 T9 := by rw [HS9.out, HT9.out]; exact cn_of A9 B9
        go_wp2_with fail
        refine (Add_any S3 T3 S7 T7 _ CS3 CS7).mono ?_
        rintro e w14 ⟨rfl, hG14⟩
        rw [← HA9.out, ← HB9.out, ← HS9.out, ← HT9.out, ← HE9.out]
        have gw14 : G w w14 := gw13.trans (G.trans (by (repeat' (first | (with_reducible exact G.refl _) | (with_reducible assumption) | (with_reducible refine G.drewN ?_ _) | (with_reducible refine G.drew ?_) | (with_reducible refine G.alloc ?_ _) | (with_reducible refine G.setCell ?_ (by first | (with_reducible exact Nat.le_refl _) | (simp; done) | (simp; omega) | omega) _) | (with_reducible refine G.trans ?_ (by assumption))))) hG14)
        clear gw13
        clear c0a c0b c0c c0d c0e c0f c1a c1b c1c c1d c2a c2b c2c c2d c3a c3b c3c c3d c4a c4b c5a c5b c6a c6b c7a c7b c8a c8b c9a c9b c10a c10b c11a c11b
        have g0x14 : G (((w.alloc (.cells #[.int .i64 a, .int .i64 b] 35)).alloc (.cells #[.int .i64 c, .int .i64 d] 35)).alloc (.cells #[.int .i64 f, .int .i64 g] 35)) w14 := g0x13.trans (G.trans (by (repeat' (first | (with_reducible exact G.refl _) | (with_reducible assumption) | (with_reducible refine G.drewN ?_ _) | (with_reducible refine G.drew ?_) | (with_reducible refine G.alloc ?_ _) | (with_reducible refine G.setCell ?_ (by first | (with_reducible exact Nat.le_refl _) | (simp; done) | (simp; omega) | omega) _) | (with_reducible refine G.trans ?_ (by assumption))))) hG14)
        clear g0x13
        have g1x14 : G ((w1.alloc (.cells #[.int .i64 (N), .int .i64 (O)] 23)).alloc (.cells #[.int .i64 (N), .int .i64 (O + 1)] 28)) w14 := g1x13.trans (G.trans (by (repeat' (first | (with_reducible exact G.refl _) | (with_reducible assumption) | (with_reducible refine G.drewN ?_ _) | (with_reducible refine G.drew ?_) | (with_reducible refine G.alloc ?_ _) | (with_reducible refine G.setCell ?_ (by first | (with_reducible exact Nat.le_refl _) | (simp; done) | (simp; omega) | omega) _) | (with_reducible refine G.trans ?_ (by assumption))))) hG14)
        clear g1x13
        have g2x14 : G ((w2.alloc (.cells #[.int .i64 (M), .int .i64 (U)] 23)).alloc (.cells #[.int .i64 (M), .int .i64 (U + 1)] 28)) w14 := g2x13.trans (G.trans (by (repeat' (first | (with_reducible exact G.refl _) | (with_reducible assumption) | (with_reducible refine G.drewN ?_ _) | (with_reducible refine G.drew ?_) | (with_reducible refine G.alloc ?_ _) | (with_reducible refine G.setCell ?_ (by first | (with_reducible exact Nat.le_refl _) | (simp; done) | (simp; omega) | omega) _) | (with_reducible refine G.trans ?_ (by assumption))))) hG14)
        clear g2x13
        have g3x14 : G ((w3.alloc (.cells #[.int .i64 (L), .int .i64 (V)] 23)).alloc (.cells #[.int .i64 (L), .int .i64 (V + 1)] 28)) w14 := g3x13.trans (G.trans (by (repeat' (first | (with_reducible exact G.refl _) | (with_reducible assumption) | (with_reducible refine G.drewN ?_ _) | (with_reducible refine G.drew ?_) | (with_reducible refine G.alloc ?_ _) | (with_reducible refine G.setCell ?_ (by first | (with_reducible exact Nat.le_refl _) | (simp; done) | (simp; omega) | omega) _) | (with_reducible refine G.trans ?_ (by assumption))))) hG14)
        clear g3x13
        have g4x14 : G (w4.alloc (.cells #[.int .i64 S1, .int .i64 T1] 23)) w14 := g4x13.trans (G.trans (by (repeat' (first | (with_reducible exact G.refl _) | (with_reducible assumption) | (with_reducible refine G.drewN ?_ _) | (with_reducible refine G.drew ?_) | (with_reducible refine G.alloc ?_ _) | (with_reducible refine G.setCell ?_ (by first | (with_reducible exact Nat.le_refl _) | (simp; done) | (simp; omega) | omega) _) | (with_reducible refine G.trans ?_ (by assumption))))) hG14)
        clear g4x13
        have g5x14 : G (w5.alloc (.cells #[.int .i64 (S1), .int .i64 (T1)] 23)) w14 := g5x13.trans (G.trans (by (repeat' (first | (with_reducible exact G.refl _) | (with_reducible assumption) | (with_reducible refine G.drewN ?_ _) | (with_reducible refine G.drew ?_) | (with_reducible refine G.alloc ?_ _) | (with_reducible refine G.setCell ?_ (by first | (with_reducible exact Nat.le_refl _) | (simp; done) | (simp; omega) | omega) _) | (with_reducible refine G.trans ?_ (by assumption))))) hG14)
        clear g5x13
        have g6x14 : G (w6.alloc (.cells #[.int .i64 S3, .int .i64 T3] 23)) w14 := g6x13.trans (G.trans (by (repeat' (first | (with_reducible exact G.refl _) | (with_reducible assumption) | (with_reducible refine G.drewN ?_ _) | (with_reducible refine G.drew ?_) | (with_reducible refine G.alloc ?_ _) | (with_reducible refine G.setCell ?_ (by first | (with_reducible exact Nat.le_refl _) | (simp; done) | (simp; omega) | omega) _) | (with_reducible refine G.trans ?_ (by assumption))))) hG14)
        clear g6x13
        have g7x14 : G (w7.alloc (.cells #[.int .i64 (S3), .int .i64 (T3)] 23)) w14 := g7x13.trans (G.trans (by (repeat' (first | (with_reducible exact G.refl _) | (with_reducible assumption) | (with_reducible refine G.drewN ?_ _) | (with_reducible refine G.drew ?_) | (with_reducible refine G.alloc ?_ _) | (with_reducible refine G.setCell ?_ (by first | (with_reducible exact Nat.le_refl _) | (simp; done) | (simp; omega) | omega) _) | (with_reducible refine G.trans ?_ (by assumption))))) hG14)
        clear g7x13
        have g8x14 : G (w9.alloc (.cells #[.int .i64 S4, .int .i64 T4] 23)) w14 := g8x13.trans (G.trans (by (repeat' (first | (with_reducible exact G.refl _) | (with_reducible assumption) | (with_reducible refine G.drewN ?_ _) | (with_reducible refine G.drew ?_) | (with_reducible refine G.alloc ?_ _) | (with_reducible refine G.setCell ?_ (by first | (with_reducible exact Nat.le_refl _) | (simp; done) | (simp; omega) | omega) _) | (with_reducible refine G.trans ?_ (by assumption))))) hG14)
        clear g8x13
        have g9x14 : G (w10.alloc (.cells #[.int .i64 S5, .int .i64 T5] 23)) w14 := g9x13.trans (G.trans (by (repeat' (first | (with_reducible exact G.refl _) | (with_reducible assumption) | (with_reducible refine G.drewN ?_ _) | (with_reducible refine G.drew ?_) | (with_reducible refine G.alloc ?_ _) | (with_reducible refine G.setCell ?_ (by first | (with_reducible exact Nat.le_refl _) | (simp; done) | (simp; omega) | omega) _) | (with_reducible refine G.trans ?_ (by assumption))))) hG14)
        clear g9x13
        have g10x14 : G (w11.alloc (.cells #[.int .i64 S5, .int .i64 T5] 23)) w14 := g10x13.trans (G.trans (by (repeat' (first | (with_reducible exact G.refl _) | (with_reducible assumption) | (with_reducible refine G.drewN ?_ _) | (with_reducible refine G.drew ?_) | (with_reducible refine G.alloc ?_ _) | (with_reducible refine G.setCell ?_ (by first | (with_reducible exact Nat.le_refl _) | (simp; done) | (simp; omega) | omega) _) | (with_reducible refine G.trans ?_ (by assumption))))) hG14)
        clear g10x13
        have g11x14 : G (w12.alloc (.cells #[.int .i64 S7, .int .i64 T7] 23)) w14 := g11x13.trans (G.trans (by (repeat' (first | (with_reducible exact G.refl _) | (with_reducible assumption) | (with_reducible refine G.drewN ?_ _) | (with_reducible refine G.drew ?_) | (with_reducible refine G.alloc ?_ _) | (with_reducible refine G.setCell ?_ (by first | (with_reducible exact Nat.le_refl _) | (simp; done) | (simp; omega) | omega) _) | (with_reducible refine G.trans ?_ (by assumption))))) hG14)
        clear g11x13
        have g12x14 : G (w13.alloc (.cells #[.int .i64 S8, .int .i64 T8] 23)) w14 := G.trans (by (repeat' (first | (with_reducible exact G.refl _) | (with_reducible assumption) | (with_reducible refine G.drewN ?_ _) | (with_reducible refine G.drew ?_) | (with_reducible refine G.alloc ?_ _) | (with_reducible refine G.setCell ?_ (by first | (with_reducible exact Nat.le_refl _) | (simp; done) | (simp; omega) | omega) _) | (with_reducible refine G.trans ?_ (by assumption))))) hG14
        obtain ⟨c0a, c0b, c0c, c0d, c0e, c0f⟩ := trio_later g0x14
        obtain ⟨c1a, c1b, c1c, c1d⟩ := pair_later g1x14
        obtain ⟨c2a, c2b, c2c, c2d⟩ := pair_later g2x14
        obtain ⟨c3a, c3b, c3c, c3d⟩ := pair_later g3x14
        obtain ⟨c4a, c4b⟩ := box_later g4x14
        obtain ⟨c5a, c5b⟩ := box_later g5x14
        obtain ⟨c6a, c6b⟩ := box_later g6x14
        obtain ⟨c7a, c7b⟩ := box_later g7x14
        obtain ⟨c8a, c8b⟩ := box_later g8x14
        obtain ⟨c9a, c9b⟩ := box_later g9x14
        obtain ⟨c10a, c10b⟩ := box_later g10x14
        obtain ⟨c11a, c11b⟩ := box_later g11x14
        obtain ⟨c12a, c12b⟩ := box_later g12x14
        have P2 : E4 = 0 → E3 = 0 → E7 = 0 → E8 = E9 ∧ S8 = S9 ∧ T8 = T9 := fun z y x => field_dist hN hM hL HA3.out HB3.out HS3.out HT3.out HE3.out HA4.out HB4.out HS4.out HT4.out HE4.out HA7.out HB7.out HS7.out HT7.out HE7.out HA8.out HB8.out HS8.out HT8.out HE8.out HA9.out HB9.out HS9.out HT9.out HE9.out z y x
        have HP2 := Lib.hid P2
        clear P2
        by_cases y4 : E4 = 0
        · first
          | (exfalso; omega)
          | (by_cases y3 : E3 = 0
             · by_cases y7 : E7 = 0
               · obtain ⟨rfl, rfl, rfl⟩ := HP2.out y4 y3 y7
                 go_wp2
                 go_ret
                 exact ⟨rfl, by (repeat' (first | (with_reducible exact G.refl _) | (with_reducible assumption) | (with_reducible refine G.drewN ?_ _) | (with_reducible refine G.drew ?_) | (with_reducible refine G.alloc ?_ _) | (with_reducible refine G.setCell ?_ (by first | (with_reducible exact Nat.le_refl _) | (simp; done) | (simp; omega) | omega) _) | (with_reducible refine G.trans ?_ (by assumption))))⟩
               · have z7 : (E7 == 0) = false := by simpa using y7
                 go_wp2
                 go_ret
                 exact ⟨rfl, by (repeat' (first | (with_reducible exact G.refl _) | (with_reducible assumption) | (with_reducible refine G.drewN ?_ _) | (with_reducible refine G.drew ?_) | (with_reducible refine G.alloc ?_ _) | (with_reducible refine G.setCell ?_ (by first | (with_reducible exact Nat.le_refl _) | (simp; done) | (simp; omega) | omega) _) | (with_reducible refine G.trans ?_ (by assumption))))⟩
             · have z3 : (E3 == 0) = false := by simpa using y3
               go_wp2
               go_ret
               exact ⟨rfl, by (repeat' (first | (with_reducible exact G.refl _) | (with_reducible assumption) | (with_reducible refine G.drewN ?_ _) | (with_reducible refine G.drew ?_) | (with_reducible refine G.alloc ?_ _) | (with_reducible refine G.setCell ?_ (by first | (with_reducible exact Nat.le_refl _) | (simp; done) | (simp; omega) | omega) _) | (with_reducible refine G.trans ?_ (by assumption))))⟩)
        · first
          | (exfalso; omega)
          | (have z4 : (E4 == 0) = false := by simpa using y4
             go_wp2
             go_ret
             exact ⟨rfl, by (repeat' (first | (with_reducible exact G.refl _) | (with_reducible assumption) | (with_reducible refine G.drewN ?_ _) | (with_reducible refine G.drew ?_) | (with_reducible refine G.alloc ?_ _) | (with_reducible refine G.setCell ?_ (by first | (with_reducible exact Nat.le_refl _) | (simp; done) | (simp; omega) | omega) _) | (with_reducible refine G.trans ?_ (by assumption))))⟩)
      · have z5 : (E5 == 0) = false := by simpa using y5
        clear q1 q2 q3
        obtain ⟨A7, HA7⟩ : ∃ z : Int, Hid (z = N * L) := ⟨_, rfl⟩
        obtain ⟨B7, HB7⟩ : ∃ z : Int, Hid (z = (O + 1) * (V + 1)) := ⟨_, rfl⟩
        obtain ⟨S7, HS7⟩ : ∃ z : Int, Hid (z = oN A7 B7) := ⟨_, rfl⟩
        obtain ⟨T7, HT7⟩ : ∃ z : Int, Hid (z = oD A7 B7 - 1) := ⟨_, rfl⟩
        obtain ⟨E7, HE7⟩ : ∃ z : Int, Hid (z = oE A7 B7) := ⟨_, rfl⟩
        have CS7 : Cn S7 T7 := by rw [HS7.out, HT7.out]; exact cn_of A7 B7
        go_wp2_with fail
        refine (Mul_any N O L V _ hN hL).mono ?_
        rintro e w12 ⟨rfl, hG12⟩
        rw [← HA7.out, ← HB7.out, ← HS7.out, ← HT7.out, ← HE7.out]
        have gw12 : G w w12 := gw11.trans (G.trans (by (repeat' (first | (with_reducible exact G.refl _) | (with_reducible assumption) | (with_reducible refine G.drewN ?_ _) | (with_reducible refine G.drew ?_) | (with_reducible refine G.alloc ?_ _) | (with_reducible refine G.setCell ?_ (by first | (with_reducible exact Nat.le_refl _) | (simp; done) | (simp; omega) | omega) _) | (with_reducible refine G.trans ?_ (by assumption))))) hG12)
        clear gw11
        clear c0a c0b c0c c0d c0e c0f c1a c1b c1c c1d c2a c2b c2c c2d c3a c3b c3c c3d c4a c4b c5a c5b c6a c6b c7a c7b c8a c8b c9a c9b
        have g0x12 : G (((w.alloc (.cells #[.int .i64 a, .int .i64 b] 35)).alloc (.cells #[.int .i64 c, .int .i64 d] 35)).alloc (.cells #[.int .i64 f, .int .i64 g] 35)) w12 := g0x11.trans (G.trans (by (repeat' (first | (with_reducible exact G.refl _) | (with_reducible assumption) | (with_reducible refine G.drewN ?_ _) | (with_reducible refine G.drew ?_) | (with_reducible refine G.alloc ?_ _) | (with_reducible refine G.setCell ?_ (by first | (with_reducible exact Nat.le_refl _) | (simp; done) | (simp; omega) | omega) _) | (with_reducible refine G.trans ?_ (by assumption))))) hG12)
        clear g0x11
        have g1x12 : G ((w1.alloc (.cells #[.int .i64 (N), .int .i64 (O)] 23)).alloc (.cells #[.int .i64 (N), .int .i64 (O + 1)] 28)) w12 := g1x11.trans (G.trans (by (repeat' (first | (with_reducible exact G.refl _) | (with_reducible assumption) | (with_reducible refine G.drewN ?_ _) | (with_reducible refine G.drew ?_) | (with_reducible refine G.alloc ?_ _) | (with_reducible refine G.setCell ?_ (by first | (with_reducible exact Nat.le_refl _) | (simp; done) | (simp; omega) | omega) _) | (with_reducible refine G.trans ?_ (by assumption))))) hG12)
        clear g1x11
        have g2x12 : G ((w2.alloc (.cells #[.int .i64 (M), .int .i64 (U)] 23)).alloc (.cells #[.int .i64 (M), .int .i64 (U + 1)] 28)) w12 := g2x11.trans (G.trans (by (repeat' (first | (with_reducible exact G.refl _) | (with_reducible assumption) | (with_reducible refine G.drewN ?_ _) | (with_reducible refine G.drew ?_) | (with_reducible refine G.alloc ?_ _) | (with_reducible refine G.setCell ?_ (by first | (with_reducible exact Nat.le_refl _) | (simp; done) | (simp; omega) | omega) _) | (with_reducible refine G.trans ?_ (by assumption))))) hG12)
        clear g2x11
        have g3x12 : G ((w3.alloc (.cells #[.int .i64 (L), .int .i64 (V)] 23)).alloc (.cells #[.int .i64 (L), .int .i64 (V + 1)] 28)) w12 := g3x11.trans (G.trans (by (repeat' (first | (with_reducible exact G.refl _) | (with_reducible assumption) | (with_reducible refine G.drewN ?_ _) | (with_reducible refine G.drew ?_) | (with_reducible refine G.alloc ?_ _) | (with_reducible refine G.setCell ?_ (by first | (with_reducible exact Nat.le_refl _) | (simp; done) | (simp; omega) | omega) _) | (with_reducible refine G.trans ?_ (by assumption))))) hG12)
        clear g3x11
        have g4x12 : G (w4.alloc (.cells #[.int .i64 S1, .int .i64 T1] 23)) w12 := g4x11.trans (G.trans (by (repeat' (first | (with_reducible exact G.refl _) | (with_reducible assumption) | (with_reducible refine G.drewN ?_ _) | (with_reducible refine G.drew ?_) | (with_reducible refine G.alloc ?_ _) | (with_reducible refine G.setCell ?_ (by first | (with_reducible exact Nat.le_refl _) | (simp; done) | (simp; omega) | omega) _) | (with_reducible refine G.trans ?_ (by assumption))))) hG12)
        clear g4x11
        have g5x12 : G (w5.alloc (.cells #[.int .i64 (S1), .int .i64 (T1)] 23)) w12 := g5x11.trans (G.trans (by (repeat' (first | (with_reducible exact G.refl _) | (with_reducible assumption) | (with_reducible refine G.drewN ?_ _) | (with_reducible refine G.drew ?_) | (with_reducible refine G.alloc ?_ _) | (with_reducible refine G.setCell ?_ (by first | (with_reducible exact Nat.le_refl _) | (simp; done) | (simp; omega) | omega) _) | (with_reducible refine G.trans ?_ (by assumption))))) hG12)
        clear g5x11
        have g6x12 : G (w6.alloc (.cells #[.int .i64 S3, .int .i64 T3] 23)) w12 := g6x11.trans (G.trans (by (repeat' (first | (with_reducible exact G.refl _) | (with_reducible assumption) | (with_reducible refine G.drewN ?_ _) | (with_reducible refine G.drew ?_) | (with_reducible refine G.alloc ?_ _) | (with_reducible refine G.setCell ?_ (by first | (with_reducible exact Nat.le_refl _) | (simp; done) | (simp; omega) | omega) _) | (with_reducible refine G.trans ?_ (by assumption))))) hG12)
        clear g6x11
        have g7x12 : G (w7.alloc (.cells #[.int .i64 (S3), .int .i64 (T3)] 23)) w12 := g7x11.trans (G.trans (by (repeat' (first | (with_reducible exact G.refl _) | (with_reducible assumption) | (with_reducible refine G.drewN ?_ _) | (with_reducible refine G.drew ?_) | (with_reducible refine G.alloc ?_ _) | (with_reducible refine G.setCell ?_ (by first | (with_reducible exact Nat.le_refl _) | (simp; done) | (simp; omega) | omega) _) | (with_reducible refine G.trans ?_ (by assumption))))) hG12)
        clear g7x11
        have g8x12 : G (w9.alloc (.cells #[.int .i64 S4, .int .i64 T4] 23)) w12 := g8x11.trans (G.trans (by (repeat' (first | (with_reducible exact G.refl _) | (with_reducible assumption) | (with_reducible refine G.drewN ?_ _) | (with_reducible refine G.drew ?_) | (with_reducible refine G.alloc ?_ _) | (with_reducible refine G.setCell ?_ (by first | (with_reducible exact Nat.le_refl _) | (simp; done) | (simp; omega) | omega) _) | (with_reducible refine G.trans ?_ (by assumption))))) hG12)
        clear g8x11
        have g9x12 : G (w10.alloc (.cells #[.int .i64 S5, .int .i64 T5] 23)) w12 := g9x11.trans (G.trans (by (repeat' (first | (with_reducible exact G.refl _) | (with_reducible assumption) | (with_reducible refine G.drewN ?_ _) | (with_reducible refine G.drew ?_) | (with_reducible refine G.alloc ?_ _) | (with_reducible refine G.setCell ?_ (by first | (with_reducible exact Nat.le_refl _) | (simp; done) | (simp; omega) | omega) _) | (with_reducible refine G.trans ?_ (by assumption))))) hG12)
        clear g9x11
        have g10x12 : G (w11.alloc (.cells #[.int .i64 S6, .int .i64 T6] 23)) w12 := G.trans (by (repeat' (first | (with_reducible exact G.refl _) | (with_reducible assumption) | (with_reducible refine G.drewN ?_ _) | (with_reducible refine G.drew ?_) | (with_reducible refine G.alloc ?_ _) | (with_reducible refine G.setCell ?_ (by first | (with_reducible exact Nat.le_refl _) | (simp; done) | (simp; omega) | omega) _) | (with_reducible refine G.trans ?_ (by assumption))))) hG12
        obtain ⟨c0a, c0b, c0c, c0d, c0e, c0f⟩ := trio_later g0x12
        obtain ⟨c1a, c1b, c1c, c1d⟩ := pair_later g1x12
        obtain ⟨c2a, c2b, c2c, c2d⟩ := pair_later g2x12
        obtain ⟨c3a, c3b, c3c, c3d⟩ := pair_later g3x12
        obtain ⟨c4a, c4b⟩ := box_later g4x12
        obtain ⟨c5a, c5b⟩ := box_later g5x12
        obtain ⟨c6a, c6b⟩ := box_later g6x12
        obtain ⟨c7a, c7b⟩ := box_later g7x12
        obtain ⟨c8a, c8b⟩ := box_later g8x12
        obtain ⟨c9a, c9b⟩ := box_later g9x12
        obtain ⟨c10a, c10b⟩ := box_later g10x12
        obtain ⟨A8, HA8⟩ : ∃ z : Int, Hid (z = N * S4) := ⟨_, rfl⟩
        obtain ⟨B8, HB8⟩ : ∃ z : Int, Hid (z = (O + 1) * (T4 + 1)) := ⟨_, rfl⟩
        obtain ⟨S8, HS8⟩ : ∃ z : Int, Hid (z = oN A8 B8) := ⟨_, rfl⟩
        obtain ⟨T8, HT8⟩ : ∃ z : Int, Hid (z = oD A8 B8 - 1) := ⟨_, rfl⟩
        obtain ⟨E8, HE8⟩ : ∃ z : Int, Hid (z = oE A8 B8) := ⟨_, rfl⟩
        have CS8 : Cn S8 T8 := by rw [HS8.out, HT8.out]; exact cn_of A8 B8
        go_wp2_with fail
        refine (Mul_any N O S4 T4 _ hN CS4).mono ?_
        rintro e w13 ⟨rfl, hG13⟩
        rw [← HA8.out, ← HB8.out, ← HS8.out, ← HT8.out, ← HE8.out]
        have gw13 : G w w13 := gw12.trans (G.trans (by (repeat' (first | (with_reducible exact G.refl _) | (with_reducible assumption) | (with_reducible refine G.drewN ?_ _) | (with_reducible refine G.drew ?_) | (with_reducible refine G.alloc ?_ _) | (with_reducible refine G.setCell ?_ (by first | (with_reducible exact Nat.le_refl _) | (simp; done) | (simp; omega) | omega) _) | (with_reducible refine G.trans ?_ (by assumption))))) hG13)
        clear gw12
        clear c0a c0b c0c c0d c0e c0f c1a c1b c1c c1d c2a c2b c2c c2d c3a c3b c3c c3d c4a c4b c5a c5b c6a c6b c7a c7b c8a c8b c9a c9b c10a c10b
        have g0x13 : G (((w.alloc (.cells #[.int .i64 a, .int .i64 b] 35)).alloc (.cells #[.int .i64 c, .int .i64 d] 35)).alloc (.cells #[.int .i64 f, .int .i64 g] 35)) w13 := g0x12.trans (G.trans (by (repeat' (first | (with_reducible exact G.refl _) | (with_reducible assumption) | (with_reducible refine G.drewN ?_ _) | (with_reducible refine G.drew ?_) | (with_reducible refine G.alloc ?_ _) | (with_reducible refine G.setCell ?_ (by first | (with_reducible exact Nat.le_refl _) | (simp; done) | (simp; omega) | omega) _) | (with_reducible refine G.trans ?_ (by assumption))))) hG13)
        clear g0x12
        have g1x13 : G ((w1.alloc (.cells #[.int .i64 (N), .int .i64 (O)] 23)).alloc (.cells #[.int .i64 (N), .int .i64 (O + 1)] 28)) w13 := g1x12.trans (G.trans (by (repeat' (first | (with_reducible exact G.refl _) | (with_reducible assumption) | (with_reducible refine G.drewN ?_ _) | (with_reducible refine G.drew ?_) | (with_reducible refine G.alloc ?_ _) | (with_reducible refine G.setCell ?_ (by first | (with_reducible exact Nat.le_refl _) | (simp; done) | (simp; omega) | omega) _) | (with_reducible refine G.trans ?_ (by assumption))))) hG13)
        clear g1x12
        have g2x13 : G ((w2.alloc (.cells #[.int .i64 (M), .int .i64 (U)] 23)).alloc (.cells #[.int .i64 (M), .int .i64 (U + 1)] 28)) w13 := g2x12.trans (G.trans (by (repeat' (first | (with_reducible exact G.refl _) | (with_reducible assumption) | (with_reducible refine G.drewN ?_ _) | (with_reducible refine G.drew ?_) | (with_reducible refine G.alloc ?_ _) | (with_reducible refine G.setCell ?_ (by first | (with_reducible exact Nat.le_refl _) | (simp; done) | (simp; omega) | omega) _) | (with_reducible refine G.trans ?_ (by assumption))))) hG13)
        clear g2x12
        have g3x13 : G ((w3.alloc (.cells #[.int .i64 (L), .int .i64 (V)] 23)).alloc (.cells #[.int .i64 (L), .int .i64 (V + 1)] 28)) w13 := g3x12.trans (G.trans (by (repeat' (first | (with_reducible exact G.refl _) | (with_reducible assumption) | (with_reducible refine G.drewN ?_ _) | (with_reducible refine G.drew ?_) | (with_reducible refine G.alloc ?_ _) | (with_reducible refine G.setCell ?_ (by first | (with_reducible exact Nat.le_refl _) | (simp; done) | (simp; omega) | omega) _) | (with_reducible refine G.trans ?_ (by assumption))))) hG13)
        clear g3x12
        have g4x13 : G (w4.alloc (.cells #[.int .i64 S1, .int .i64 T1] 23)) w13 := g4x12.trans (G.trans (by (repeat' (first | (with_reducible exact G.refl _) | (with_reducible assumption) | (with_reducible refine G.drewN ?_ _) | (with_reducible refine G.drew ?_) | (with_reducible refine G.alloc ?_ _) | (with_reducible refine G.setCell ?_ (by first | (with_reducible exact Nat.le_refl _) | (simp; done) | (simp; omega) | omega) _) | (with_reducible refine G.trans ?_ (by assumption))))) hG13)
        clear g4x12
        have g5x13 : G (w5.alloc (.cells #[.int .i64 (S1), .int .i64 (T1)] 23)) w13 := g5x12.trans (G.trans (by (repeat' (first | (with_reducible exact G.refl _) | (with_reducible assumption) | (with_reducible refine G.drewN ?_ _) | (with_reducible refine G.drew ?_) | (with_reducible refine G.alloc ?_ _) | (with_reducible refine G.setCell ?_ (by first | (with_reducible exact Nat.le_refl _) | (simp; done) | (simp; omega) | omega) _) | (with_reducible refine G.trans ?_ (by assumption))))) hG13)
        clear g5x12
        have g6x13 : G (w6.alloc (.cells #[.int .i64 S3, .int .i64 T3] 23)) w13 := g6x12.trans (G.trans (by (repeat' (first | (with_reducible exact G.refl _) | (with_reducible assumption) | (with_reducible refine G.drewN ?_ _) | (with_reducible refine G.drew ?_) | (with_reducible refine G.alloc ?_ _) | (with_reducible refine G.setCell ?_ (by first | (with_reducible exact Nat.le_refl _) | (simp; done) | (simp; omega) | omega) _) | (with_reducible refine G.trans ?_ (by assumption))))) hG13)
        clear g6x12
        have g7x13 : G (w7.alloc (.cells #[.int .i64 (S3), .int .i64 (T3)] 23)) w13 := g7x12.trans (G.trans (by (repeat' (first | (with_reducible exact G.refl _) | (with_reducible assumption) | (with_reducible refine G.drewN ?_ _) | (with_reducible refine G.drew ?_) | (with_reducible refine G.alloc ?_ _) | (with_reducible refine G.setCell ?_ (by first | (with_reducible exact Nat.le_refl _) | (simp; done) | (simp; omega) | omega) _) | (with_reducible refine G.trans ?_ (by assumption))))) hG13)
        clear g7x12
        have g8x13 : G (w9.alloc (.cells #[.int .i64 S4, .int .i64 T4] 23)) w13 := g8x12.trans (G.trans (by (repeat' (first | (with_reducible exact G.refl _) | (with_reducible assumption) | (with_reducible refine G.drewN ?_ _) | (with_reducible refine G.drew ?_) | (with_reducible refine G.alloc ?_ _) | (with_reducible refine G.setCell ?_ (by first | (with_reducible exact Nat.le_refl _) | (simp; done) | (simp; omega) | omega) _) | (with_reducible refine G.trans ?_ (by assumption))))) hG13)
        clear g8x12
        have g9x13 : G (w10.alloc (.cells #[.int .i64 S5, .int .i64 T5] 23)) w13 := g9x12.trans (G.trans (by (repeat' (first | (with_reducible exact G.refl _) | (with_reducible assumption) | (with_reducible refine G.drewN ?_ _) | (with_reducible refine G.drew ?_) | (with_reducible refine G.alloc ?_ _) | (with_reducible refine G.setCell ?_ (by first | (with_reducible exact Nat.le_refl _) | (simp; done) | (simp; omega) | omega) _) | (with_reducible refine G.trans ?_ (by assumption))))) hG13)
        clear g9x12
        have g10x13 : G (w11.alloc (.cells #[.int .i64 S6, .int .i64 T6] 23)) w13 := g10x12.trans (G.trans (by (repeat' (first | (with_reducible exact G.refl _) | (with_reducible assumption) | (with_reducible refine G.drewN ?_ _) | (with_reducible refine G.drew ?_) | (with_reducible refine G.alloc ?_ _) | (with_reducible refine G.setCell ?_ (by first | (with_reducible exact Nat.le_refl _) | (simp; done) | (simp; omega) | omega) _) | (with_reducible refine G.trans ?_ (by assumption))))) hG13)
        clear g10x12
        have g11x13 : G (w12.alloc (.cells #[.int .i64 S7, .int .i64 T7] 23)) w13 := G.trans (by (repeat' (first | (with_reducible exact G.refl _) | (with_reducible assumption) | (with_reducible refine G.drewN ?_ _) | (with_reducible refine G.drew ?_) | (with_reducible refine G.alloc ?_ _) | (with_reducible refine G.setCell ?_ (by first | (with_reducible exact Nat.le_refl _) | (simp; done) | (simp; omega) | omega) _) | (with_reducible refine G.trans ?_ (by assumption))))) hG13
        obtain ⟨c0a, c0b, c0c, c0d, c0e, c0f⟩ := trio_later g0x13
        obtain ⟨c1a, c1b, c1c, c1d⟩ := pair_later g1x13
        obtain ⟨c2a, c2b, c2c, c2d⟩ := pair_later g2x13
        obtain ⟨c3a, c3b, c3c, c3d⟩ := pair_later g3x13
        obtain ⟨c4a, c4b⟩ := box_later g4x13
        obtain ⟨c5a, c5b⟩ := box_later g5x13
        obtain ⟨c6a, c6b⟩ := box_later g6x13
        obtain ⟨c7a, c7b⟩ := box_later g7x13
        obtain ⟨c8a, c8b⟩ := box_later g8x13
        obtain ⟨c9a, c9b⟩ := box_later g9x13
        obtain ⟨c10a, c10b⟩ := box_later g10x13
        obtain ⟨c11a, c11b⟩ := box_later g11x13
        obtain ⟨A9, HA9⟩ : ∃ z : Int, Hid (z = S3 * (T7 + 1) + S7 * (T3 + 1)) := ⟨_, rfl⟩
        obtain ⟨B9, HB9⟩ : ∃ z : Int, Hid (z = (T3 + 1) * (T7 + 1)) := ⟨_, rfl⟩
        obtain ⟨S9, HS9⟩ : ∃ z : Int, Hid (z = oN A9 B9) := ⟨_, rfl⟩
        obtain ⟨T9, HT9⟩ : ∃ z : Int, Hid (z = oD A9 B9 - 1) := ⟨_, rfl⟩
        obtain ⟨E9, HE9⟩ : ∃ z : Int, Hid (z = oE A9 B9) := ⟨_, rfl⟩
        have CS9 : Cn S9 T9 := by rw [HS9.out, HT9.out]; exact cn_of A9 B9
        go_wp2_with fail
        refine (Add_any S3 T3 S7 T7 _ CS3 CS7).mono ?_
        rintro e w14 ⟨rfl, hG14⟩
        rw [← HA9.out, ← HB9.out, ← HS9.out, ← HT9.out, ← HE9.out]
        have gw14 : G w w14 := gw13.trans (G.trans (by (repeat' (first | (with_reducible exact G.refl _) | (with_reducible assumption) | (with_reducible refine G.drewN ?_ _) | (with_reducible refine G.drew ?_) | (with_reducible refine G.alloc ?_ _) | (with_reducible refine G.setCell ?_ (by first | (with_reducible exact Nat.le_refl _) | (simp; done) | (simp; omega) | omega) _) | (with_reducible refine G.trans ?_ (by assumption))))) hG14)
        clear gw13
        clear c0a c0b c0c c0d c0e c0f c1a c1b c1c c1d c2a c2b c2c c2d c3a c3b c3c c3d c4a c4b c5a c5b c6a c6b c7a c7b c8a c8b c9a c9b c10a c10b c11a c11b
        have g0x14 : G (((w.alloc (.cells #[.int .i64 a, .int .i64 b] 35)).alloc (.cells #[.int .i64 c, .int .i64 d] 35)).alloc (.cells #[.int .i64 f, .int .i64 g] 35)) w14 := g0x13.trans (G.trans (by (repeat' (first | (with_reducible exact G.refl _) | (with_reducible assumption) | (with_reducible refine G.drewN ?_ _) | (with_reducible refine G.drew ?_) | (with_reducible refine G.alloc ?_ _) | (with_reducible refine G.setCell ?_ (by first | (with_reducible exact Nat.le_refl _) | (simp; done) | (simp; omega) | omega) _) | (with_reducible refine G.trans ?_ (by assumption))))) hG14)
        clear g0x13
        have g1x14 : G ((w1.alloc (.cells #[.int .i64 (N), .int .i64 (O)] 23)).alloc (.cells #[.int .i64 (N), .int .i64 (O + 1)] 28)) w14 := g1x13.trans (G.trans (by (repeat' (first | (with_reducible exact G.refl _) | (with_reducible assumption) | (with_reducible refine G.drewN ?_ _) | (with_reducible refine G.drew ?_) | (with_reducible refine G.alloc ?_ _) | (with_reducible refine G.setCell ?_ (by first | (with_reducible exact Nat.le_refl _) | (simp; done) | (simp; omega) | omega) _) | (with_reducible refine G.trans ?_ (by assumption))))) hG14)
        clear g1x13
        have g2x14 : G ((w2.alloc (.cells #[.int .i64 (M), .int .i64 (U)] 23)).alloc (.cells #[.int .i64 (M), .int .i64 (U + 1)] 28)) w14 := g2x13.trans (G.trans (by (repeat' (first | (with_reducible exact G.refl _) | (with_reducible assumption) | (with_reducible refine G.drewN ?_ _) | (with_reducible refine G.drew ?_) | (with_reducible refine G.alloc ?_ _) | (with_reducible refine G.setCell ?_ (by first | (with_reducible exact Nat.le_refl _) | (simp; done) | (simp; omega) | omega) _) | (with_reducible refine G.trans ?_ (by assumption))))) hG14)
        clear g2x13
        have g3x14 : G ((w3.alloc (.cells #[.int .i64 (L), .int .i64 (V)] 23)).alloc (.cells #[.int .i64 (L), .int .i64 (V + 1)] 28)) w14 := g3x13.trans (G.trans (by (repeat' (first | (with_reducible exact G.refl _) | (with_reducible assumption) | (with_reducible refine G.drewN ?_ _) | (with_reducible refine G.drew ?_) | (with_reducible refine G.alloc ?_ _) | (with_reducible refine G.setCell ?_ (by first | (with_reducible exact Nat.le_refl _) | (simp; done) | (simp; omega) | omega) _) | (with_reducible refine G.trans ?_ (by assumption))))) hG14)
        clear g3x13
        have g4x14 : G (w4.alloc (.cells #[.int .i64 S1, .int .i64 T1] 23)) w14 := g4x13.trans (G.trans (by (repeat' (first | (with_reducible exact G.refl _) | (with_reducible assumption) | (with_reducible refine G.drewN ?_ _) | (with_reducible refine G.drew ?_) | (with_reducible refine G.alloc ?_ _) | (with_reducible refine G.setCell ?_ (by first | (with_reducible exact Nat.le_refl _) | (simp; done) | (simp; omega) | omega) _) | (with_reducible refine G.trans ?_ (by assumption))))) hG14)
        clear g4x13
        have g5x14 : G (w5.alloc (.cells #[.int .i64 (S1), .int .i64 (T1)] 23)) w14 := g5x13.trans (G.trans (by (repeat' (first | (with_reducible exact G.refl _) | (with_reducible assumption) | (with_reducible refine G.drewN ?_ _) | (with_reducible refine G.drew ?_) | (with_reducible refine G.alloc ?_ _) | (with_reducible refine G.setCell ?_ (by first | (with_reducible exact Nat.le_refl _) | (simp; done) | (simp; omega) | omega) _) | (with_reducible refine G.trans ?_ (by assumption))))) hG14)
        clear g5x13
        have g6x14 : G (w6.alloc (.cells #[.int .i64 S3, .int .i64 T3] 23)) w14 := g6x13.trans (G.trans (by (repeat' (first | (with_reducible exact G.refl _) | (with_reducible assumption) | (with_reducible refine G.drewN ?_ _) | (with_reducible refine G.drew ?_) | (with_reducible refine G.alloc ?_ _) | (with_reducible refine G.setCell ?_ (by first | (with_reducible exact Nat.le_refl _) | (simp; done) | (simp; omega) | omega) _) | (with_reducible refine G.trans ?_ (by assumption))))) hG14)
        clear g6x13
        have g7x14 : G (w7.alloc (.cells #[.int .i64 (S3), .int .i64 (T3)] 23)) w14 := g7x13.trans (G.trans (by (repeat' (first | (with_reducible exact G.refl _) | (with_reducible assumption) | (with_reducible refine G.drewN ?_ _) | (with_reducible refine G.drew ?_) | (with_reducible refine G.alloc ?_ _) | (with_reducible refine G.setCell ?_ (by first | (with_reducible exact Nat.le_refl _) | (simp; done) | (simp; omega) | omega) _) | (with_reducible refine G.trans ?_ (by assumption))))) hG14)
        clear g7x13
        have g8x14 : G (w9.alloc (.cells #[.int .i64 S4, .int .i64 T4] 23)) w14 := g8x13.trans (G.trans (by (repeat' (first | (with_reducible exact G.refl _) | (with_reducible assumption) | (with_reducible refine G.drewN ?_ _) | (with_reducible refine G.drew ?_) | (with_reducible refine G.alloc ?_ _) | (with_reducible refine G.setCell ?_ (by first | (with_reducible exact Nat.le_refl _) | (simp; done) | (simp; omega) | omega) _) | (with_reducible refine G.trans ?_ (by assumption))))) hG14)
        clear g8x13
        have g9x14 : G (w10.alloc (.cells #[.int .i64 S5, .int .i64 T5] 23)) w14 := g9x13.trans (G.trans (by (repeat' (first | (with_reducible exact G.refl _) | (with_reducible assumption) | (with_reducible refine G.drewN ?_ _) | (with_reducible refine G.drew ?_) | (with_reducible refine G.alloc ?_ _) | (with_reducible refine G.setCell ?_ (by first | (with_reducible exact Nat.le_refl _) | (simp; done) | (simp; omega) | omega) _) | (with_reducible refine G.trans ?_ (by assumption))))) hG14)
        clear g9x13
        have g10x14 : G (w11.alloc (.cells #[.int .i64 S6, .int .i64 T6] 23)) w14 := g10x13.trans (G.trans (by (repeat' (first | (with_reducible exact G.refl _) | (with_reducible assumption) | (with_reducible refine G.drewN ?_ _) | (with_reducible refine G.drew ?_) | (with_reducible refine G.alloc ?_ _) | (with_reducible refine G.setCell ?_ (by first | (with_reducible exact Nat.le_refl _) | (simp; done) | (simp; omega) | omega) _) | (with_reducible refine G.trans ?_ (by assumption))))) hG14)
        clear g10x13
        have g11x14 : G (w12.alloc (.cells #[.int .i64 S7, .int .i64 T7] 23)) w14 := g11x13.trans (G.trans (by (repeat' (first | (with_reducible exact G.refl _) | (with_reducible assumption) | (with_reducible refine G.drewN ?_ _) | (with_reducible refine G.drew ?_) | (with_reducible refine G.alloc ?_ _) | (with_reducible refine G.setCell ?_ (by first | (with_reducible exact Nat.le_refl _) | (simp; done) | (simp; omega) | omega) _) | (with_reducible refine G.trans ?_ (by assumption))))) hG14)
        clear g11x13
        have g12x14 : G (w13.alloc (.cells #[.int .i64 S8, .int .i64 T8] 23)) w14 := G.trans (by (repeat' (first | (with_reducible exact G.refl _) | (with_reducible assumption) | (with_reducible refine G.drewN ?_ _) | (with_reducible refine G.drew ?_) | (with_reducible refine G.alloc ?_ _) | (with_reducible refine G.setCell ?_ (by first | (with_reducible exact Nat.le_refl _) | (simp; done) | (simp; omega) | omega) _) | (with_reducible refine G.trans ?_ (by assumption))))) hG14
        obtain ⟨c0a, c0b, c0c, c0d, c0e, c0f⟩ := trio_later g0x14
        obtain ⟨c1a, c1b, c1c, c1d⟩ := pair_later g1x14
        obtain ⟨c2a, c2b, c2c, c2d⟩ := pair_later g2x14
        obtain ⟨c3a, c3b, c3c, c3d⟩ := pair_later g3x14
        obtain ⟨c4a, c4b⟩ := box_later g4x14
        obtain ⟨c5a, c5b⟩ := box_later g5x14
        obtain ⟨c6a, c6b⟩ := box_later g6x14
        obtain ⟨c7a, c7b⟩ := box_later g7x14
        obtain ⟨c8a, c8b⟩ := box_later g8x14
        obtain ⟨c9a, c9b⟩ := box_later g9x14
        obtain ⟨c10a, c10b⟩ := box_later g10x14
        obtain ⟨c11a, c11b⟩ := box_later g11x14
        obtain ⟨c12a, c12b⟩ := box_later g12x14
        have P2 : E4 = 0 → E3 = 0 → E7 = 0 → E8 = E9 ∧ S8 = S9 ∧ T8 = T9 := fun z y x => field_dist hN hM hL HA3.out HB3.out HS3.out HT3.out HE3.out HA4.out HB4.out HS4.out HT4.out HE4.out HA7.out HB7.out HS7.out HT7.out HE7.out HA8.out HB8.out HS8.out HT8.out HE8.out HA9.out HB9.out HS9.out HT9.out HE9.out z y x
        have HP2 := Lib.hid P2
        clear P2
        by_cases y4 : E4 = 0
        · first
          | (exfalso; omega)
          | (by_cases y3 : E3 = 0
             · by_cases y7 : E7 = 0
               · obtain ⟨rfl, rfl, rfl⟩ := HP2.out y4 y3 y7
                 go_wp2
                 go_ret
                 exact ⟨rfl, by (repeat' (first | (with_reducible exact G.refl _) | (with_reducible assumption) | (with_reducible refine G.drewN ?_ _) | (with_reducible refine G.drew ?_) | (with_reducible refine G.alloc ?_ _) | (with_reducible refine G.setCell ?_ (by first | (with_reducible exact Nat.le_refl _) | (simp; done) | (simp; omega) | omega) _) | (with_reducible refine G.trans ?_ (by assumption))))⟩
               · have z7 : (E7 == 0) = false := by simpa using y7
                 go_wp2
                 go_ret
                 exact ⟨rfl, by (repeat' (first | (with_reducible exact G.refl _) | (with_reducible assumption) | (with_reducible refine G.drewN ?_ _) | (with_reducible refine G.drew ?_) | (with_reducible refine G.alloc ?_ _) | (with_reducible refine G.setCell ?_ (by first | (with_reducible exact Nat.le_refl _) | (simp; done) | (simp; omega) | omega) _) | (with_reducible refine G.trans ?_ (by assumption))))⟩
             · have z3 : (E3 == 0) = false := by simpa using y3
               go_wp2
               go_ret
               exact ⟨rfl, by (repeat' (first | (with_reducible exact G.refl _) | (with_reducible assumption) | (with_reducible refine G.drewN ?_ _) | (with_reducible refine G.drew ?_) | (with_reducible refine G.alloc ?_ _) | (with_reducible refine G.setCell ?_ (by first | (with_reducible exact Nat.le_refl _) | (simp; done) | (simp; omega) | omega) _) | (with_reducible refine G.trans ?_ (by assumption))))⟩)
        · first
          | (exfalso; omega)
          | (have z4 : (E4 == 0) = false := by simpa using y4
             go_wp2
             go_ret
             exact ⟨rfl, by (repeat' (first | (with_reducible exact G.refl _) | (with_reducible assumption) | (with_reducible refine G.drewN ?_ _) | (with_reducible refine G.drew ?_) | (with_reducible refine G.alloc ?_ _) | (with_reducible refine G.setCell ?_ (by first | (with_reducible exact Nat.le_refl _) | (simp; done) | (simp; omega) | omega) _) | (with_reducible refine G.trans ?_ (by assumption))))⟩)
    · have z4' : (E4 == 0) = false := by simpa using y4
      obtain ⟨A7, HA7⟩ : ∃ z : Int, Hid (z = N * L) := ⟨_, rfl⟩
      obtain ⟨B7, HB7⟩ : ∃ z : Int, Hid (z = (O + 1) * (V + 1)) := ⟨_, rfl⟩
      obtain ⟨S7, HS7⟩ : ∃ z : Int, Hid (z = oN A7 B7) := ⟨_, rfl⟩
      obtain ⟨T7, HT7⟩ : ∃ z : Int, Hid (z = oD A7 B7 - 1) := ⟨_, rfl⟩
      obtain ⟨E7, HE7⟩ : ∃ z : Int, Hid (z = oE A7 B7) := ⟨_, rfl⟩
      have CS7 : Cn S7 T7 := by rw [HS7.out, HT7.out]; exact cn_of A7 B7
      go_wp2_with fail
      refine (Mul_any N O L V _ hN hL).mono ?_
      rintro e w12 ⟨rfl, hG12⟩
      rw [← HA7.out, ← HB7.out, ← HS7.out, ← HT7.out, ← HE7.out]
      have gw12 : G w w12 := gw11.trans (G.trans (by (repeat' (first | (with_reducible exact G.refl _) | (with_reducible assumption) | (with_reducible refine G.drewN ?_ _) | (with_reducible refine G.drew ?_) | (with_reducible refine G.alloc ?_ _) | (with_reducible refine G.setCell ?_ (by first | (with_reducible exact Nat.le_refl _) | (simp; done) | (simp; omega) | omega) _) | (with_reducible refine G.trans ?_ (by assumption))))) hG12)
      clear gw11
      clear c0a c0b c0c c0d c0e c0f c1a c1b c1c c1d c2a c2b c2c c2d c3a c3b c3c c3d c4a c4b c5a c5b c6a c6b c7a c7b c8a c8b c9a c9b
      have g0x12 : G (((w.alloc (.cells #[.int .i64 a, .int .i64 b] 35)).alloc (.cells #[.int .i64 c, .int .i64 d] 35)).alloc (.cells #[.int .i64 f, .int .i64 g] 35)) w12 := g0x11.trans (G.trans (by (repeat' (first | (with_reducible exact G.refl _) | (with_reducible assumption) | (with_reducible refine G.drewN ?_ _) | (with_reducible refine G.drew ?_) | (with_reducible refine G.alloc ?_ _) | (with_reducible refine G.setCell ?_ (by first | (with_reducible exact Nat.le_refl _) | (simp; done) | (simp; omega) | omega) _) | (with_reducible refine G.trans ?_ (by assumption))))) hG12)
      clear g0x11
      have g1x12 : G ((w1.alloc (.cells #[.int .i64 (N), .int .i64 (O)] 23)).alloc (.cells #[.int .i64 (N), .int .i64 (O + 1)] 28)) w12 := g1x11.trans (G.trans (by (repeat' (first | (with_reducible exact G.refl _) | (with_reducible assumption) | (with_reducible refine G.drewN ?_ _) | (with_reducible refine G.drew ?_) | (with_reducible refine G.alloc ?_ _) | (with_reducible refine G.setCell ?_ (by first | (with_reducible exact Nat.le_refl _) | (simp; done) | (simp; omega) | omega) _) | (with_reducible refine G.trans ?_ (by assumption))))) hG12)
      clear g1x11
      have g2x12 : G ((w2.alloc (.cells #[.int .i64 (M), .int .i64 (U)] 23)).alloc (.cells #[.int .i64 (M), .int .i64 (U + 1)] 28)) w12 := g2x11.trans (G.trans (by (repeat' (first | (with_reducible exact G.refl _) | (with_reducible assumption) | (with_reducible refine G.drewN ?_ _) | (with_reducible refine G.drew ?_) | (with_reducible refine G.alloc ?_ _) | (with_reducible refine G.setCell ?_ (by first | (with_reducible exact Nat.le_refl _) | (simp; done) | (simp; omega) | omega) _) | (with_reducible refine G.trans ?_ (by assumption))))) hG12)
      clear g2x11
      have g3x12 : G ((w3.alloc (.cells #[.int .i64 (L), .int .i64 (V)] 23)).alloc (.cells #[.int .i64 (L), .int .i64 (V + 1)] 28)) w12 := g3x11.trans (G.trans (by (repeat' (first | (with_reducible exact G.refl _) | (with_reducible assumption) | (with_reducible refine G.drewN ?_ _) | (with_reducible refine G.drew ?_) | (with_reducible refine G.alloc ?_ _) | (with_reducible refine G.setCell ?_ (by first | (with_reducible exact Nat.le_refl _) | (simp; done) | (simp; omega) | omega) _) | (with_reducible refine G.trans ?_ (by assumption))))) hG12)
      clear g3x11
      have g4x12 : G (w4.alloc (.cells #[.int .i64 S1, .int .i64 T1] 23)) w12 := g4x11.trans (G.trans (by (repeat' (first | (with_reducible exact G.refl _) | (with_reducible assumption) | (with_reducible refine G.drewN ?_ _) | (with_reducible refine G.drew ?_) | (with_reducible refine G.alloc ?_ _) | (with_reducible refine G.setCell ?_ (by first | (with_reducible exact Nat.le_refl _) | (simp; done) | (simp; omega) | omega) _) | (with_reducible refine G.trans ?_ (by assumption))))) hG12)
      clear g4x11
      have g5x12 : G (w5.alloc (.cells #[.int .i64 (S1), .int .i64 (T1)] 23)) w12 := g5x11.trans (G.trans (by (repeat' (first | (with_reducible exact G.refl _) | (with_reducible assumption) | (with_reducible refine G.drewN ?_ _) | (with_reducible refine G.drew ?_) | (with_reducible refine G.alloc ?_ _) | (with_reducible refine G.setCell ?_ (by first | (with_reducible exact Nat.le_refl _) | (simp; done) | (simp; omega) | omega) _) | (with_reducible refine G.trans ?_ (by assumption))))) hG12)
      clear g5x11
      have g6x12 : G (w6.alloc (.cells #[.int .i64 S3, .int .i64 T3] 23)) w12 := g6x11.trans (G.trans (by (repeat' (first | (with_reducible exact G.refl _) | (with_reducible assumption) | (with_reducible refine G.drewN ?_ _) | (with_reducible refine G.drew ?_) | (with_reducible refine G.alloc ?_ _) | (with_reducible refine G.setCell ?_ (by first | (with_reducible exact Nat.le_refl _) | (simp; done) | (simp; omega) | omega) _) | (with_reducible refine G.trans ?_ (by assumption))))) hG12)
      clear g6x11
      have g7x12 : G (w7.alloc (.cells #[.int .i64 (S3), .int .i64 (T3)] 23)) w12 := g7x11.trans (G.trans (by (repeat' (first | (with_reducible exact G.refl _) | (with_reducible assumption) | (with_reducible refine G.drewN ?_ _) | (with_reducible refine G.drew ?_) | (with_reducible refine G.alloc ?_ _) | (with_reducible refine G.setCell ?_ (by first | (with_reducible exact Nat.le_refl _) | (simp; done) | (simp; omega) | omega) _) | (with_reducible refine G.trans ?_ (by assumption))))) hG12)
      clear g7x11
      have g8x12 : G (w9.alloc (.cells #[.int .i64 S4, .int .i64 T4] 23)) w12 := g8x11.trans (G.trans (by (repeat' (first | (with_reducible exact G.refl _) | (with_reducible assumption) | (with_reducible refine G.drewN ?_ _) | (with_reducible refine G.drew ?_) | (with_reducible refine G.alloc ?_ _) | (with_reducible refine G.setCell ?_ (by first | (with_reducible exact Nat.le_refl _) | (simp; done) | (simp; omega) | omega) _) | (with_reducible refine G.trans ?_ (by assumption))))) hG12)
      clear g8x11
      have g9x12 : G (w10.alloc (.cells #[.int .i64 S5, .int .i64 T5] 23)) w12 := g9x11.trans (G.trans (by (repeat' (first | (with_reducible exact G.refl _) | (with_reducible assumption) | (with_reducible refine G.drewN ?_ _) | (with_reducible refine G.drew ?_) | (with_reducible refine G.alloc ?_ _) | (with_reducible refine G.setCell ?_ (by first | (with_reducible exact Nat.le_refl _) | (simp; done) | (simp; omega) | omega) _) | (with_reducible refine G.trans ?_ (by assumption))))) hG12)
      clear g9x11
      have g10x12 : G (w11.alloc (.cells #[.int .i64 S6, .int .i64 T6] 23)) w12 := G.trans (by (repeat' (first | (with_reducible exact G.refl _) | (with_reducible assumption) | (with_reducible refine G.drewN ?_ _) | (with_reducible refine G.drew ?_) | (with_reducible refine G.alloc ?_ _) | (with_reducible refine G.setCell ?_ (by first | (with_reducible exact Nat.le_refl _) | (simp; done) | (simp; omega) | omega) _) | (with_reducible refine G.trans ?_ (by assumption))))) hG12
      obtain ⟨c0a, c0b, c0c, c0d, c0e, c0f⟩ := trio_later g0x12
      obtain ⟨c1a, c1b, c1c, c1d⟩ := pair_later g1x12
      obtain ⟨c2a, c2b, c2c, c2d⟩ := pair_later g2x12
      obtain ⟨c3a, c3b, c3c, c3d⟩ := pair_later g3x12
      obtain ⟨c4a, c4b⟩ := box_later g4x12
      obtain ⟨c5a, c5b⟩ := box_later g5x12
      obtain ⟨c6a, c6b⟩ := box_later g6x12
      obtain ⟨c7a, c7b⟩ := box_later g7x12
      obtain ⟨c8a, c8b⟩ := box_later g8x12
      obtain ⟨c9a, c9b⟩ := box_later g9x12
      obtain ⟨c10a, c10b⟩ := box_later g10x12
      obtain ⟨A8, HA8⟩ : ∃ z : Int, Hid (z = N * S4) := ⟨_, rfl⟩
      obtain ⟨B8, HB8⟩ : ∃ z : Int, Hid (z = (O + 1) * (T4 + 1)) := ⟨_, rfl⟩
      obtain ⟨S8, HS8⟩ : ∃ z : Int, Hid (z = oN A8 B8) := ⟨_, rfl⟩
      obtain ⟨T8, HT8⟩ : ∃ z : Int, Hid (z = oD A8 B8 - 1) := ⟨_, rfl⟩
      obtain ⟨E8, HE8⟩ : ∃ z : Int, Hid (z = oE A8 B8) := ⟨_, rfl⟩
      have CS8 : Cn S8 T8 := by rw [HS8.out, HT8.out]; exact cn_of A8 B8
      go_wp2_with fail
      refine (Mul_any N O S4 T4 _ hN CS4).mono ?_
      rintro e w13 ⟨rfl, hG13⟩
      rw [← HA8.out, ← HB8.out, ← HS8.out, ← HT8.out, ← HE8.out]
      have gw13 : G w w13 := gw12.trans (G.trans (by (repeat' (first | (with_reducible exact G.refl _) | (with_reducible assumption) | (with_reducible refine G.drewN ?_ _) | (with_reducible refine G.drew ?_) | (with_reducible refine G.alloc ?_ _) | (with_reducible refine G.setCell ?_ (by first | (with_reducible exact Nat.le_refl _) | (simp; done) | (simp; omega) | omega) _) | (with_reducible refine G.trans ?_ (by assumption))))) hG13)
      clear gw12
      clear c0a c0b c0c c0d c0e c0f c1a c1b c1c c1d c2a c2b c2c c2d c3a c3b c3c c3d c4a c4b c5a c5b c6a c6b c7a c7b c8a c8b c9a c9b c10a c10b
      have g0x13 : G (((w.alloc (.cells #[.int .i64 a, .int .i64 b] 35)).alloc (.cells #[.int .i64 c, .int .i64 d] 35)).alloc (.cells #[.int .i64 f, .int .i64 g] 35)) w13 := g0x12.trans (G.trans (by (repeat' (first | (with_reducible exact G.refl _) | (with_reducible assumption) | (with_reducible refine G.drewN ?_ _) | (with_reducible refine G.drew ?_) | (with_reducible refine G.alloc ?_ _) | (with_reducible refine G.setCell ?_ (by first | (with_reducible exact Nat.le_refl _) | (simp; done) | (simp; omega) | omega) _) | (with_reducible refine G.trans ?_ (by assumption))))) hG13)
      clear g0x12
      have g1x13 : G ((w1.alloc (.cells #[.int .i64 (N), .int .i64 (O)] 23)).alloc (.cells #[.int .i64 (N), .int .i64 (O + 1)] 28)) w13 := g1x12.trans (G.trans (by (repeat' (first | (with_reducible exact G.refl _) | (with_reducible assumption) | (with_reducible refine G.drewN ?_ _) | (with_reducible refine G.drew ?_) | (with_reducible refine G.alloc ?_ _) | (with_reducible refine G.setCell ?_ (by first | (with_reducible exact Nat.le_refl _) | (simp; done) | (simp; omega) | omega) _) | (with_reducible refine G.trans ?_ (by assumption))))) hG13)
      clear g1x12
      have g2x13 : G ((w2.alloc (.cells #[.int .i64 (M), .int .i64 (U)] 23)).alloc (.cells #[.int .i64 (M), .int .i64 (U + 1)] 28)) w13 := g2x12.trans (G.trans (by (repeat' (first | (with_reducible exact G.refl _) | (with_reducible assumption) | (with_reducible refine G.drewN ?_ _) | (with_reducible refine G.drew ?_) | (with_reducible refine G.alloc ?_ _) | (with_reducible refine G.setCell ?_ (by first | (with_reducible exact Nat.le_refl _) | (simp; done) | (simp; omega) | omega) _) | (with_reducible refine G.trans ?_ (by assumption))))) hG13)
      clear g2x12
      have g3x13 : G ((w3.alloc (.cells #[.int .i64 (L), .int .i64 (V)] 23)).alloc (.cells #[.int .i64 (L), .int .i64 (V + 1)] 28)) w13 := g3x12.trans (G.trans (by (repeat' (first | (with_reducible exact G.refl _) | (with_reducible assumption) | (with_reducible refine G.drewN ?_ _) | (with_reducible refine G.drew ?_) | (with_reducible refine G.alloc ?_ _) | (with_reducible refine G.setCell ?_ (by first | (with_reducible exact Nat.le_refl _) | (simp; done) | (simp; omega) | omega) _) | (with_reducible refine G.trans ?_ (by assumption))))) hG13)
      clear g3x12
      have g4x13 : G (w4.alloc (.cells #[.int .i64 S1, .int .i64 T1] 23)) w13 := g4x12.trans (G.trans (by (repeat' (first | (with_reducible exact G.refl _) | (with_reducible assumption) | (with_reducible refine G.drewN ?_ _) | (with_reducible refine G.drew ?_) | (with_reducible refine G.alloc ?_ _) | (with_reducible refine G.setCell ?_ (by first | (with_reducible exact Nat.le_refl _) | (simp; done) | (simp; omega) | omega) _) | (with_reducible refine G.trans ?_ (by assumption))))) hG13)
      clear g4x12
      have g5x13 : G (w5.alloc (.cells #[.int .i64 (S1), .int .i64 (T1)] 23)) w13 := g5x12.trans (G.trans (by (repeat' (first | (with_reducible exact G.refl _) | (with_reducible assumption) | (with_reducible refine G.drewN ?_ _) | (with_reducible refine G.drew ?_) | (with_reducible refine G.alloc ?_ _) | (with_reducible refine G.setCell ?_ (by first | (with_reducible exact Nat.le_refl _) | (simp; done) | (simp; omega) | omega) _) | (with_reducible refine G.trans ?_ (by assumption))))) hG13)
      clear g5x12
      have g6x13 : G (w6.alloc (.cells #[.int .i64 S3, .int .i64 T3] 23)) w13 := g6x12.trans (G.trans (by (repeat' (first | (with_reducible exact G.refl _) | (with_reducible assumption) | (with_reducible refine G.drewN ?_ _) | (with_reducible refine G.drew ?_) | (with_reducible refine G.alloc ?_ _) | (with_reducible refine G.setCell ?_ (by first | (with_reducible exact Nat.le_refl _) | (simp; done) | (simp; omega) | omega) _) | (with_reducible refine G.trans ?_ (by assumption))))) hG13)
      clear g6x12
      have g7x13 : G (w7.alloc (.cells #[.int .i64 (S3), .int .i64 (T3)] 23)) w13 := g7x12.trans (G.trans (by (repeat' (first | (with_reducible exact G.refl _) | (with_reducible assumption) | (with_reducible refine G.drewN ?_ _) | (with_reducible refine G.drew ?_) | (with_reducible refine G.alloc ?_ _) | (with_reducible refine G.setCell ?_ (by first | (with_reducible exact Nat.le_refl _) | (simp; done) | (simp; omega) | omega) _) | (with_reducible refine G.trans ?_ (by assumption))))) hG13)
      clear g7x12
      have g8x13 : G (w9.alloc (.cells #[.int .i64 S4, .int .i64 T4] 23)) w13 := g8x12.trans (G.trans (by (repeat' (first | (with_reducible exact G.refl _) | (with_reducible assumption) | (with_reducible refine G.drewN ?_ _) | (with_reducible refine G.drew ?_) | (with_reducible refine G.alloc ?_ _) | (with_reducible refine G.setCell ?_ (by first | (with_reducible exact Nat.le_refl _) | (simp; done) | (simp; omega) | omega) _) | (with_reducible refine G.trans ?_ (by assumption))))) hG13)
      clear g8x12
      have g9x13 : G (w10.alloc (.cells #[.int .i64 S5, .int .i64 T5] 23)) w13 := g9x12.trans (G.trans (by (repeat' (first | (with_reducible exact G.refl _) | (with_reducible assumption) | (with_reducible refine G.drewN ?_ _) | (with_reducible refine G.drew ?_) | (with_reducible refine G.alloc ?_ _) | (with_reducible refine G.setCell ?_ (by first | (with_reducible exact Nat.le_refl _) | (simp; done) | (simp; omega) | omega) _) | (with_reducible refine G.trans ?_ (by assumption))))) hG13)
      clear g9x12
      have g10x13 : G (w11.alloc (.cells #[.int .i64 S6, .int .i64 T6] 23)) w13 := g10x12.trans (G.trans (by (repeat' (first | (with_reducible exact G.refl _) | (with_reducible assumption) | (with_reducible refine G.drewN ?_ _) | (with_reducible refine G.drew ?_) | (with_reducible refine G.alloc ?_ _) | (with_reducible refine G.setCell ?_ (by first | (with_reducible exact Nat.le_refl _) | (simp; done) | (simp; omega) | omega) _) | (with_reducible refine G.trans ?_ (by assumption))))) hG13)
      clear g10x12
      have g11x13 : G (w12.alloc (.cells #[.int .i64 S7, .int .i64 T7] 23)) w13 := G.trans (by (repeat' (first | (with_reducible exact G.refl _) | (with_reducible assumption) | (with_reducible refine G.drewN ?_ _) | (with_reducible refine G.drew ?_) | (with_reducible refine G.alloc ?_ _) | (with_reducible refine G.setCell ?_ (by first | (with_reducible exact Nat.le_refl _) | (simp; done) | (simp; omega) | omega) _) | (with_reducible refine G.trans ?_ (by assumption))))) hG13
      obtain ⟨c0a, c0b, c0c, c0d, c0e, c0f⟩ := trio_later g0x13
      obtain ⟨c1a, c1b, c1c, c1d⟩ := pair_later g1x13
      obtain ⟨c2a, c2b, c2c, c2d⟩ := pair_later g2x13
      obtain ⟨c3a, c3b, c3c, c3d⟩ := pair_later g3x13
      obtain ⟨c4a, c4b⟩ := box_later g4x13
      obtain ⟨c5a, c5b⟩ := box_later g5x13
      obtain ⟨c6a, c6b⟩ := box_later g6x13
      obtain ⟨c7a, c7b⟩ := box_later g7x13
      obtain ⟨c8a, c8b⟩ := box_later g8x13
      obtain ⟨c9a, c9b⟩ := box_later g9x13
      obtain ⟨c10a, c10b⟩ := box_later g10x13
      obtain ⟨c11a, c11b⟩ := box_later g11x13
      obtain ⟨A9, HA9⟩ : ∃ z : Int, Hid (z = S3 * (T7 + 1) + S7 * (T3 + 1)) := ⟨_, rfl⟩
      obtain ⟨B9, HB9⟩ : ∃ z : Int, Hid (z = (T3 + 1) * (T7 + 1)) := ⟨_, rfl⟩
      obtain ⟨S9, HS9⟩ : ∃ z : Int, Hid (z = oN A9 B9) := ⟨_, rfl⟩
      obtain ⟨T9, HT9⟩ : ∃ z : Int, Hid (z = oD A9 B9 - 1) := ⟨_, rfl⟩
      obtain ⟨E9, HE9⟩ : ∃ z : Int, Hid (z = oE A9 B9) := ⟨_, rfl⟩
      have CS9 : Cn S9 T9 := by rw [HS9.out, HT9.out]; exact cn_of A9 B9
      go_wp2_with fail
      refine (Add_any S3 T3 S7 T7 _ CS3 CS7).mono ?_
      rintro e w14 ⟨rfl, hG14⟩
      rw [← HA9.out, ← HB9.out, ← HS9.out, ← HT9.out, ← HE9.out]
      have gw14 : G w w14 := gw13.trans (G.trans (by (repeat' (first | (with_reducible exact G.refl _) | (with_reducible assumption) | (with_reducible refine G.drewN ?_ _) | (with_reducible refine G.drew ?_) | (with_reducible refine G.alloc ?_ _) | (with_reducible refine G.setCell ?_ (by first | (with_reducible exact Nat.le_refl _) | (simp; done) | (simp; omega) | omega) _) | (with_reducible refine G.trans ?_ (by assumption))))) hG14)
      clear gw13
      clear c0a c0b c0c c0d c0e c0f c1a c1b c1c c1d c2a c2b c2c c2d c3a c3b c3c c3d c4a c4b c5a c5b c6a c6b c7a c7b c8a c8b c9a c9b c10a c10b c11a c11b
      have g0x14 : G (((w.alloc (.cells #[.int .i64 a, .int .i64 b] 35)).alloc (.cells #[.int .i64 c, .int .i64 d] 35)).alloc (.cells #[.int .i64 f, .int .i64 g] 35)) w14 := g0x13.trans (G.trans (by (repeat' (first | (with_reducible exact G.refl _) | (with_reducible assumption) | (with_reducible refine G.drewN ?_ _) | (with_reducible refine G.drew ?_) | (with_reducible refine G.alloc ?_ _) | (with_reducible refine G.setCell ?_ (by first | (with_reducible exact Nat.le_refl _) | (simp; done) | (simp; omega) | omega) _) | (with_reducible refine G.trans ?_ (by assumption))))) hG14)
      clear g0x13
      have g1x14 : G ((w1.alloc (.cells #[.int .i64 (N), .int .i64 (O)] 23)).alloc (.cells #[.int .i64 (N), .int .i64 (O + 1)] 28)) w14 := g1x13.trans (G.trans (by (repeat' (first | (with_reducible exact G.refl _) | (with_reducible assumption) | (with_reducible refine G.drewN ?_ _) | (with_reducible refine G.drew ?_) | (with_reducible refine G.alloc ?_ _) | (with_reducible refine G.setCell ?_ (by first | (with_reducible exact Nat.le_refl _) | (simp; done) | (simp; omega) | omega) _) | (with_reducible refine G.trans ?_ (by assumption))))) hG14)
      clear g1x13
      have g2x14 : G ((w2.alloc (.cells #[.int .i64 (M), .int .i64 (U)] 23)).alloc (.cells #[.int .i64 (M), .int .i64 (U + 1)] 28)) w14 := g2x13.trans (G.trans (by (repeat' (first | (with_reducible exact G.refl _) | (with_reducible assumption) | (with_reducible refine G.drewN ?_ _) | (with_reducible refine G.drew ?_) | (with_reducible refine G.alloc ?_ _) | (with_reducible refine G.setCell ?_ (by first | (with_reducible exact Nat.le_refl _) | (simp; done) | (simp; omega) | omega) _) | (with_reducible refine G.trans ?_ (by assumption))))) hG14)
      clear g2x13
      have g3x14 : G ((w3.alloc (.cells #[.int .i64 (L), .int .i64 (V)] 23)).alloc (.cells #[.int .i64 (L), .int .i64 (V + 1)] 28)) w14 := g3x13.trans (G.trans (by (repeat' (first | (with_reducible exact G.refl _) | (with_reducible assumption) | (with_reducible refine G.drewN ?_ _) | (with_reducible refine G.drew ?_) | (with_reducible refine G.alloc ?_ _) | (with_reducible refine G.setCell ?_ (by first | (with_reducible exact Nat.le_refl _) | (simp; done) | (simp; omega) | omega) _) | (with_reducible refine G.trans ?_ (by assumption))))) hG14)
      clear g3x13
      have g4x14 : G (w4.alloc (.cells #[.int .i64 S1, .int .i64 T1] 23)) w14 := g4x13.trans (G.trans (by (repeat' (first | (with_reducible exact G.refl _) | (with_reducible assumption) | (with_reducible refine G.drewN ?_ _) | (with_reducible refine G.drew ?_) | (with_reducible refine G.alloc ?_ _) | (with_reducible refine G.setCell ?_ (by first | (with_reducible exact Nat.le_refl _) | (simp; done) | (simp; omega) | omega) _) | (with_reducible refine G.trans ?_ (by assumption))))) hG14)
      clear g4x13
      have g5x14 : G (w5.alloc (.cells #[.int .i64 (S1), .int .i64 (T1)] 23)) w14 := g5x13.trans (G.trans (by (repeat' (first | (with_reducible exact G.refl _) | (with_reducible assumption) | (with_reducible refine G.drewN ?_ _) | (with_reducible refine G.drew ?_) | (with_reducible refine G.alloc ?_ _) | (with_reducible refine G.setCell ?_ (by first | (with_reducible exact Nat.le_refl _) | (simp; done) | (simp; omega) | omega) _) | (with_reducible refine G.trans ?_ (by assumption))))) hG14)
      clear g5x13
      have g6x14 : G (w6.alloc (.cells #[.int .i64 S3, .int .i64 T3] 23)) w14 := g6x13.trans (G.trans (by (repeat' (first | (with_reducible exact G.refl _) | (with_reducible assumption) | (with_reducible refine G.drewN ?_ _) | (with_reducible refine G.drew ?_) | (with_reducible refine G.alloc ?_ _) | (with_reducible refine G.setCell ?_ (by first | (with_reducible exact Nat.le_refl _) | (simp; done) | (simp; omega) | omega) _) | (with_reducible refine G.trans ?_ (by assumption))))) hG14)
      clear g6x13
      have g7x14 : G (w7.alloc (.cells #[.int .i64 (S3), .int .i64 (T3)] 23)) w14 := g7x13.trans (G.trans (by (repeat' (first | (with_reducible exact G.refl _) | (with_reducible assumption) | (with_reducible refine G.drewN ?_ _) | (with_reducible refine G.drew ?_) | (with_reducible refine G.alloc ?_ _) | (with_reducible refine G.setCell ?_ (by first | (with_reducible exact Nat.le_refl _) | (simp; done) | (simp; omega) | omega) _) | (with_reducible refine G.trans ?_ (by assumption))))) hG14)
      clear g7x13
      have g8x14 : G (w9.alloc (.cells #[.int .i64 S4, .int .i64 T4] 23)) w14 := g8x13.trans (G.trans (by (repeat' (first | (with_reducible exact G.refl _) | (with_reducible assumption) | (with_reducible refine G.drewN ?_ _) | (with_reducible refine G.drew ?_) | (with_reducible refine G.alloc ?_ _) | (with_reducible refine G.setCell ?_ (by first | (with_reducible exact Nat.le_refl _) | (simp; done) | (simp; omega) | omega) _) | (with_reducible refine G.trans ?_ (by assumption))))) hG14)
      clear g8x13
      have g9x14 : G (w10.alloc (.cells #[.int .i64 S5, .int .i64 T5] 23)) w14 := g9x13.trans (G.trans (by (repeat' (first | (with_reducible exact G.refl _) | (with_reducible assumption) | (with_reducible refine G.drewN ?_ _) | (with_reducible refine G.drew ?_) | (with_reducible refine G.alloc ?_ _) | (with_reducible refine G.setCell ?_ (by first | (with_reducible exact Nat.le_refl _) | (simp; done) | (simp; omega) | omega) _) | (with_reducible refine G.trans ?_ (by assumption))))) hG14)
      clear g9x13
      have g10x14 : G (w11.alloc (.cells #[.int .i64 S6, .int .i64 T6] 23)) w14 := g10x13.trans (G.trans (by (repeat' (first | (with_reducible exact G.refl _) | (with_reducible assumption) | (with_reducible refine G.drewN ?_ _) | (with_reducible refine G.drew ?_) | (with_reducible refine G.alloc ?_ _) | (with_reducible refine G.setCell ?_ (by first | (with_reducible exact Nat.le_refl _) | (simp; done) | (simp; omega) | omega) _) | (with_reducible refine G.trans ?_ (by assumption))))) hG14)
      clear g10x13
      have g11x14 : G (w12.alloc (.cells #[.int .i64 S7, .int .i64 T7] 23)) w14 := g11x13.trans (G.trans (by (repeat' (first | (with_reducible exact G.refl _) | (with_reducible assumption) | (with_reducible refine G.drewN ?_ _) | (with_reducible refine G.drew ?_) | (with_reducible refine G.alloc ?_ _) | (with_reducible refine G.setCell ?_ (by first | (with_reducible exact Nat.le_refl _) | (simp; done) | (simp; omega) | omega) _) | (with_reducible refine G.trans ?_ (by assumption))))) hG14)
      clear g11x13
      have g12x14 : G (w13.alloc (.cells #[.int .i64 S8, .int .i64 T8] 23)) w14 := G.trans (by (repeat' (first | (with_reducible exact G.refl _) | (with_reducible assumption) | (with_reducible refine G.drewN ?_ _) | (with_reducible refine G.drew ?_) | (with_reducible refine G.alloc ?_ _) | (with_reducible refine G.setCell ?_ (by first | (with_reducible exact Nat.le_refl _) | (simp; done) | (simp; omega) | omega) _) | (with_reducible refine G.trans ?_ (by assumption))))) hG14
      obtain ⟨c0a, c0b, c0c, c0d, c0e, c0f⟩ := trio_later g0x14
      obtain ⟨c1a, c1b, c1c, c1d⟩ := pair_later g1x14
      obtain ⟨c2a, c2b, c2c, c2d⟩ := pair_later g2x14
      obtain ⟨c3a, c3b, c3c, c3d⟩ := pair_later g3x14
      obtain ⟨c4a, c4b⟩ := box_later g4x14
      obtain ⟨c5a, c5b⟩ := box_later g5x14
      obtain ⟨c6a, c6b⟩ := box_later g6x14
      obtain ⟨c7a, c7b⟩ := box_later g7x14
      obtain ⟨c8a, c8b⟩ := box_later g8x14
      obtain ⟨c9a, c9b⟩ := box_later g9x14
      obtain ⟨c10a, c10b⟩ := box_later g10x14
      obtain ⟨c11a, c11b⟩ := box_later g11x14
      obtain ⟨c12a, c12b⟩ := box_later g12x14
      have P2 : E4 = 0 → E3 = 0 → E7 = 0 → E8 = E9 ∧ S8 = S9 ∧ T8 = T9 := fun z y x => field_dist hN hM hL HA3.out HB3.out HS3.out HT3.out HE3.out HA4.out HB4.out HS4.out HT4.out HE4.out HA7.out HB7.out HS7.out HT7.out HE7.out HA8.out HB8.out HS8.out HT8.out HE8.out HA9.out HB9.out HS9.out HT9.out HE9.out z y x
      have HP2 := Lib.hid P2
      clear P2
      by_cases y4 : E4 = 0
      · first
        | (exfalso; omega)
        | (by_cases y3 : E3 = 0
           · by_cases y7 : E7 = 0
             · obtain ⟨rfl, rfl, rfl⟩ := HP2.out y4 y3 y7
               go_wp2
               go_ret
               exact ⟨rfl, by (repeat' (first | (with_reducible exact G.refl _) | (with_reducible assumption) | (with_reducible refine G.drewN ?_ _) | (with_reducible refine G.drew ?_) | (with_reducible refine G.alloc ?_ _) | (with_reducible refine G.setCell ?_ (by first | (with_reducible exact Nat.le_refl _) | (simp; done) | (simp; omega) | omega) _) | (with_reducible refine G.trans ?_ (by assumption))))⟩
             · have z7 : (E7 == 0) = false := by simpa using y7
               go_wp2
               go_ret
               exact ⟨rfl, by (repeat' (first | (with_reducible exact G.refl _) | (with_reducible assumption) | (with_reducible refine G.drewN ?_ _) | (with_reducible refine G.drew ?_) | (with_reducible refine G.alloc ?_ _) | (with_reducible refine G.setCell ?_ (by first | (with_reducible exact Nat.le_refl _) | (simp; done) | (simp; omega) | omega) _) | (with_reducible refine G.trans ?_ (by assumption))))⟩
           · have z3 : (E3 == 0) = false := by simpa using y3
             go_wp2
             go_ret
             exact ⟨rfl, by (repeat' (first | (with_reducible exact G.refl _) | (with_reducible assumption) | (with_reducible refine G.drewN ?_ _) | (with_reducible refine G.drew ?_) | (with_reducible refine G.alloc ?_ _) | (with_reducible refine G.setCell ?_ (by first | (with_reducible exact Nat.le_refl _) | (simp; done) | (simp; omega) | omega) _) | (with_reducible refine G.trans ?_ (by assumption))))⟩)
      · first
        | (exfalso; omega)
        | (have z4 : (E4 == 0) = false := by simpa using y4
           go_wp2
           go_ret
           exact ⟨rfl, by (repeat' (first | (with_reducible exact G.refl _) | (with_reducible assumption) | (with_reducible refine G.drewN ?_ _) | (with_reducible refine G.drew ?_) | (with_reducible refine G.alloc ?_ _) | (with_reducible refine G.setCell ?_ (by first | (with_reducible exact Nat.le_refl _) | (simp; done) | (simp; omega) | omega) _) | (with_reducible refine G.trans ?_ (by assumption))))⟩)
  · have z1' : (E1 == 0) = false := by simpa using y1
    obtain ⟨A7, HA7⟩ : ∃ z : Int, Hid (z = N * L) := ⟨_, rfl⟩
    obtain ⟨B7, HB7⟩ : ∃ z : Int, Hid (z = (O + 1) * (V + 1)) := ⟨_, rfl⟩
    obtain ⟨S7, HS7⟩ : ∃ z : Int, Hid (z = oN A7 B7) := ⟨_, rfl⟩
    obtain ⟨T7, HT7⟩ : ∃ z : Int, Hid (z = oD A7 B7 - 1) := ⟨_, rfl⟩
    obtain ⟨E7, HE7⟩ : ∃ z : Int, Hid (z = oE A7 B7) := ⟨_, rfl⟩
    have CS7 : Cn S7 T7 := by rw [HS7.out, HT7.out]; exact cn_of A7 B7
    go_wp2_with fail
    refine (Mul_any N O L V _ hN hL).mono ?_
    rintro e w12 ⟨rfl, hG12⟩
    rw [← HA7.out, ← HB7.out, ← HS7.out, ← HT7.out, ← HE7.out]
    have gw12 : G w w12 := gw11.trans (G.trans (by (repeat' (first | (with_reducible exact G.refl _) | (with_reducible assumption) | (with_reducible refine G.drewN ?_ _) | (with_reducible refine G.drew ?_) | (with_reducible refine G.alloc ?_ _) | (with_reducible refine G.setCell ?_ (by first | (with_reducible exact Nat.le_refl _) | (simp; done) | (simp; omega) | omega) _) | (with_reducible refine G.trans ?_ (by assumption))))) hG12)
    clear gw11
    clear c0a c0b c0c c0d c0e c0f c1a c1b c1c c1d c2a c2b c2c c2d c3a c3b c3c c3d c4a c4b c5a c5b c6a c6b c7a c7b c8a c8b c9a c9b
    have g0x12 : G (((w.alloc (.cells #[.int .i64 a, .int .i64 b] 35)).alloc (.cells #[.int .i64 c, .int .i64 d] 35)).alloc (.cells #[.int .i64 f, .int .i64 g] 35)) w12 := g0x11.trans (G.trans (by (repeat' (first | (with_reducible exact G.refl _) | (with_reducible assumption) | (with_reducible refine G.drewN ?_ _) | (with_reducible refine G.drew ?_) | (with_reducible refine G.alloc ?_ _) | (with_reducible refine G.setCell ?_ (by first | (with_reducible exact Nat.le_refl _) | (simp; done) | (simp; omega) | omega) _) | (with_reducible refine G.trans ?_ (by assumption))))) hG12)
    clear g0x11
    have g1x12 : G ((w1.alloc (.cells #[.int .i64 (N), .int .i64 (O)] 23)).alloc (.cells #[.int .i64 (N), .int .i64 (O + 1)] 28)) w12 := g1x11.trans (G.trans (by (repeat' (first | (with_reducible exact G.refl _) | (with_reducible assumption) | (with_reducible refine G.drewN ?_ _) | (with_reducible refine G.drew ?_) | (with_reducible refine G.alloc ?_ _) | (with_reducible refine G.setCell ?_ (by first | (with_reducible exact Nat.le_refl _) | (simp; done) | (simp; omega) | omega) _) | (with_reducible refine G.trans ?_ (by assumption))))) hG12)
    clear g1x11
    have g2x12 : G ((w2.alloc (.cells #[.int .i64 (M), .int .i64 (U)] 23)).alloc (.cells #[.int .i64 (M), .int .i64 (U + 1)] 28)) w12 := g2x11.trans (G.trans (by (repeat' (first | (with_reducible exact G.refl _) | (with_reducible assumption) | (with_reducible refine G.drewN ?_ _) | (with_reducible refine G.drew ?_) | (with_reducible refine G.alloc ?_ _) | (with_reducible refine G.setCell ?_ (by first | (with_reducible exact Nat.le_refl _) | (simp; done) | (simp; omega) | omega) _) | (with_reducible refine G.trans ?_ (by assumption))))) hG12)
    clear g2x11
    have g3x12 : G ((w3.alloc (.cells #[.int .i64 (L), .int .i64 (V)] 23)).alloc (.cells #[.int .i64 (L), .int .i64 (V + 1)] 28)) w12 := g3x11.trans (G.trans (by (repeat' (first | (with_reducible exact G.refl _) | (with_reducible assumption) | (with_reducible refine G.drewN ?_ _) | (with_reducible refine G.drew ?_) | (with_reducible refine G.alloc ?_ _) | (with_reducible refine G.setCell ?_ (by first | (with_reducible exact Nat.le_refl _) | (simp; done) | (simp; omega) | omega) _) | (with_reducible refine G.trans ?_ (by assumption))))) hG12)
    clear g3x11
    have g4x12 : G (w4.alloc (.cells #[.int .i64 S1, .int .i64 T1] 23)) w12 := g4x11.trans (G.trans (by (repeat' (first | (with_reducible exact G.refl _) | (with_reducible assumption) | (with_reducible refine G.drewN ?_ _) | (with_reducible refine G.drew ?_) | (with_reducible refine G.alloc ?_ _) | (with_reducible refine G.setCell ?_ (by first | (with_reducible exact Nat.le_refl _) | (simp; done) | (simp; omega) | omega) _) | (with_reducible refine G.trans ?_ (by assumption))))) hG12)
    clear g4x11
    have g5x12 : G (w5.alloc (.cells #[.int .i64 (S1), .int .i64 (T1)] 23)) w12 := g5x11.trans (G.trans (by (repeat' (first | (with_reducible exact G.refl _) | (with_reducible assumption) | (with_reducible refine G.drewN ?_ _) | (with_reducible refine G.drew ?_) | (with_reducible refine G.alloc ?_ _) | (with_reducible refine G.setCell ?_ (by first | (with_reducible exact Nat.le_refl _) | (simp; done) | (simp; omega) | omega) _) | (with_reducible refine G.trans ?_ (by assumption))))) hG12)
    clear g5x11
    have g6x12 : G (w6.alloc (.cells #[.int .i64 S3, .int .i64 T3] 23)) w12 := g6x11.trans (G.trans (by (repeat' (first | (with_reducible exact G.refl _) | (with_reducible assumption) | (with_reducible refine G.drewN ?_ _) | (with_reducible refine G.drew ?_) | (with_reducible refine G.alloc ?_ _) | (with_reducible refine G.setCell ?_ (by first | (with_reducible exact Nat.le_refl _) | (simp; done) | (simp; omega) | omega) _) | (with_reducible refine G.trans ?_ (by assumption))))) hG12)
    clear g6x11
    have g7x12 : G (w7.alloc (.cells #[.int .i64 (S3), .int .i64 (T3)] 23)) w12 := g7x11.trans (G.trans (by (repeat' (first | (with_reducible exact G.refl _) | (with_reducible assumption) | (with_reducible refine G.drewN ?_ _) | (with_reducible refine G.drew ?_) | (with_reducible refine G.alloc ?_ _) | (with_reducible refine G.setCell ?_ (by first | (with_reducible exact Nat.le_refl _) | (simp; done) | (simp; omega) | omega) _) | (with_reducible refine G.trans ?_ (by assumption))))) hG12)
    clear g7x11
    have g8x12 : G (w9.alloc (.cells #[.int .i64 S4, .int .i64 T4] 23)) w12 := g8x11.trans (G.trans (by (repeat' (first | (with_reducible exact G.refl _) | (with_reducible assumption) | (with_reducible refine G.drewN ?_ _) | (with_reducible refine G.drew ?_) | (with_reducible refine G.alloc ?_ _) | (with_reducible refine G.setCell ?_ (by first | (with_reducible exact Nat.le_refl _) | (simp; done) | (simp; omega) | omega) _) | (with_reducible refine G.trans ?_ (by assumption))))) hG12)
    clear g8x11
    have g9x12 : G (w10.alloc (.cells #[.int .i64 S5, .int .i64 T5] 23)) w12 := g9x11.trans (G.trans (by (repeat' (first | (with_reducible exact G.refl _) | (with_reducible assumption) | (with_reducible refine G.drewN ?_ _) | (with_reducible refine G.drew ?_) | (with_reducible refine G.alloc ?_ _) | (with_reducible refine G.setCell ?_ (by first | (with_reducible exact Nat.le_refl _) | (simp; done) | (simp; omega) | omega) _) | (with_reducible refine G.trans ?_ (by assumption))))) hG12)
    clear g9x11
    have g10x12 : G (w11.alloc (.cells #[.int .i64 S6, .int .i64 T6] 23)) w12 := G.trans (by (repeat' (first | (with_reducible exact G.refl _) | (with_reducible assumption) | (with_reducible refine G.drewN ?_ _) | (with_reducible refine G.drew ?_) | (with_reducible refine G.alloc ?_ _) | (with_reducible refine G.setCell ?_ (by first | (with_reducible exact Nat.le_refl _) | (simp; done) | (simp; omega) | omega) _) | (with_reducible refine G.trans ?_ (by assumption))))) hG12
    obtain ⟨c0a, c0b, c0c, c0d, c0e, c0f⟩ := trio_later g0x12
    obtain ⟨c1a, c1b, c1c, c1d⟩ := pair_later g1x12
    obtain ⟨c2a, c2b, c2c, c2d⟩ := pair_later g2x12
    obtain ⟨c3a, c3b, c3c, c3d⟩ := pair_later g3x12
    obtain ⟨c4a, c4b⟩ := box_later g4x12
    obtain ⟨c5a, c5b⟩ := box_later g5x12
    obtain ⟨c6a, c6b⟩ := box_later g6x12
    obtain ⟨c7a, c7b⟩ := box_later g7x12
    obtain ⟨c8a, c8b⟩ := box_later g8x12
    obtain ⟨c9a, c9b⟩ := box_later g9x12
    obtain ⟨c10a, c10b⟩ := box_later g10x12
    obtain ⟨A8, HA8⟩ : ∃ z : Int, Hid (z = N * S4) := ⟨_, rfl⟩
    obtain ⟨B8, HB8⟩ : ∃ z : Int, Hid (z = (O + 1) * (T4 + 1)) := ⟨_, rfl⟩
    obtain ⟨S8, HS8⟩ : ∃ z : Int, Hid (z = oN A8 B8) := ⟨_, rfl⟩
    obtain ⟨T8, HT8⟩ : ∃ z : Int, Hid (z = oD A8 B8 - 1) := ⟨_, rfl⟩
    obtain ⟨E8, HE8⟩ : ∃ z : Int, Hid (z = oE A8 B8) := ⟨_, rfl⟩
    have CS8 : Cn S8 T8 := by rw [HS8.out, HT8.out]; exact cn_of A8 B8
    go_wp2_with fail
    refine (Mul_any N O S4 T4 _ hN CS4).mono ?_
    rintro e w13 ⟨rfl, hG13⟩
    rw [← HA8.out, ← HB8.out, ← HS8.out, ← HT8.out, ← HE8.out]
    have gw13 : G w w13 := gw12.trans (G.trans (by (repeat' (first | (with_reducible exact G.refl _) | (with_reducible assumption) | (with_reducible refine G.drewN ?_ _) | (with_reducible refine G.drew ?_) | (with_reducible refine G.alloc ?_ _) | (with_reducible refine G.setCell ?_ (by first | (with_reducible exact Nat.le_refl _) | (simp; done) | (simp; omega) | omega) _) | (with_reducible refine G.trans ?_ (by assumption))))) hG13)
    clear gw12
    clear c0a c0b c0c c0d c0e c0f c1a c1b c1c c1d c2a c2b c2c c2d c3a c3b c3c c3d c4a c4b c5a c5b c6a c6b c7a c7b c8a c8b c9a c9b c10a c10b
    have g0x13 : G (((w.alloc (.cells #[.int .i64 a, .int .i64 b] 35)).alloc (.cells #[.int .i64 c, .int .i64 d] 35)).alloc (.cells #[.int .i64 f, .int .i64 g] 35)) w13 := g0x12.trans (G.trans (by (repeat' (first | (with_reducible exact G.refl _) | (with_reducible assumption) | (with_reducible refine G.drewN ?_ _) | (with_reducible refine G.drew ?_) | (with_reducible refine G.alloc ?_ _) | (with_reducible refine G.setCell ?_ (by first | (with_reducible exact Nat.le_refl _) | (simp; done) | (simp; omega) | omega) _) | (with_reducible refine G.trans ?_ (by assumption))))) hG13)
    clear g0x12
    have g1x13 : G ((w1.alloc (.cells #[.int .i64 (N), .int .i64 (O)] 23)).alloc (.cells #[.int .i64 (N), .int .i64 (O + 1)] 28)) w13 := g1x12.trans (G.trans (by (repeat' (first | (with_reducible exact G.refl _) | (with_reducible assumption) | (with_reducible refine G.drewN ?_ _) | (with_reducible refine G.drew ?_) | (with_reducible refine G.alloc ?_ _) | (with_reducible refine G.setCell ?_ (by first | (with_reducible exact Nat.le_refl _) | (simp; done) | (simp; omega) | omega) _) | (with_reducible refine G.trans ?_ (by assumption))))) hG13)
    clear g1x12
    have g2x13 : G ((w2.alloc (.cells #[.int .i64 (M), .int .i64 (U)] 23)).alloc (.cells #[.int .i64 (M), .int .i64 (U + 1)] 28)) w13 := g2x12.trans (G.trans (by (repeat' (first | (with_reducible exact G.refl _) | (with_reducible assumption) | (with_reducible refine G.drewN ?_ _) | (with_reducible refine G.drew ?_) | (with_reducible refine G.alloc ?_ _) | (with_reducible refine G.setCell ?_ (by first | (with_reducible exact Nat.le_refl _) | (simp; done) | (simp; omega) | omega) _) | (with_reducible refine G.trans ?_ (by assumption))))) hG13)
    clear g2x12
    have g3x13 : G ((w3.alloc (.cells #[.int .i64 (L), .int .i64 (V)] 23)).alloc (.cells #[.int .i64 (L), .int .i64 (V + 1)] 28)) w13 := g3x12.trans (G.trans (by (repeat' (first | (with_reducible exact G.refl _) | (with_reducible assumption) | (with_reducible refine G.drewN ?_ _) | (with_reducible refine G.drew ?_) | (with_reducible refine G.alloc ?_ _) | (with_reducible refine G.setCell ?_ (by first | (with_reducible exact Nat.le_refl _) | (simp; done) | (simp; omega) | omega) _) | (with_reducible refine G.trans ?_ (by assumption))))) hG13)
    clear g3x12
    have g4x13 : G (w4.alloc (.cells #[.int .i64 S1, .int .i64 T1] 23)) w13 := g4x12.trans (G.trans (by (repeat' (first | (with_reducible exact G.refl _) | (with_reducible assumption) | (with_reducible refine G.drewN ?_ _) | (with_reducible refine G.drew ?_) | (with_reducible refine G.alloc ?_ _) | (with_reducible refine G.setCell ?_ (by first | (with_reducible exact Nat.le_refl _) | (simp; done) | (simp; omega) | omega) _) | (with_reducible refine G.trans ?_ (by assumption))))) hG13)
    clear g4x12
    have g5x13 : G (w5.alloc (.cells #[.int .i64 (S1), .int .i64 (T1)] 23)) w13 := g5x12.trans (G.trans (by (repeat' (first | (with_reducible exact G.refl _) | (with_reducible assumption) | (with_reducible refine G.drewN ?_ _) | (with_reducible refine G.drew ?_) | (with_reducible refine G.alloc ?_ _) | (with_reducible refine G.setCell ?_ (by first | (with_reducible exact Nat.le_refl _) | (simp; done) | (simp; omega) | omega) _) | (with_reducible refine G.trans ?_ (by assumption))))) hG13)
    clear g5x12
    have g6x13 : G (w6.alloc (.cells #[.int .i64 S3, .int .i64 T3] 23)) w13 := g6x12.trans (G.trans (by (repeat' (first | (with_reducible exact G.refl _) | (with_reducible assumption) | (with_reducible refine G.drewN ?_ _) | (with_reducible refine G.drew ?_) | (with_reducible refine G.alloc ?_ _) | (with_reducible refine G.setCell ?_ (by first | (with_reducible exact Nat.le_refl _) | (simp; done) | (simp; omega) | omega) _) | (with_reducible refine G.trans ?_ (by assumption))))) hG13)
    clear g6x12
    have g7x13 : G (w7.alloc (.cells #[.int .i64 (S3), .int .i64 (T3)] 23)) w13 := g7x12.trans (G.trans (by (repeat' (first | (with_reducible exact G.refl _) | (with_reducible assumption) | (with_reducible refine G.drewN ?_ _) | (with_reducible refine G.drew ?_) | (with_reducible refine G.alloc ?_ _) | (with_reducible refine G.setCell ?_ (by first | (with_reducible exact Nat.le_refl _) | (simp; done) | (simp; omega) | omega) _) | (with_reducible refine G.trans ?_ (by assumption))))) hG13)
    clear g7x12
    have g8x13 : G (w9.alloc (.cells #[.int .i64 S4, .int .i64 T4] 23)) w13 := g8x12.trans (G.trans (by (repeat' (first | (with_reducible exact G.refl _) | (with_reducible assumption) | (with_reducible refine G.drewN ?_ _) | (with_reducible refine G.drew ?_) | (with_reducible refine G.alloc ?_ _) | (with_reducible refine G.setCell ?_ (by first | (with_reducible exact Nat.le_refl _) | (simp; done) | (simp; omega) | omega) _) | (with_reducible refine G.trans ?_ (by assumption))))) hG13)
    clear g8x12
    have g9x13 : G (w10.alloc (.cells #[.int .i64 S5, .int .i64 T5] 23)) w13 := g9x12.trans (G.trans (by (repeat' (first | (with_reducible exact G.refl _) | (with_reducible assumption) | (with_reducible refine G.drewN ?_ _) | (with_reducible refine G.drew ?_) | (with_reducible refine G.alloc ?_ _) | (with_reducible refine G.setCell ?_ (by first | (with_reducible exact Nat.le_refl _) | (simp; done) | (simp; omega) | omega) _) | (with_reducible refine G.trans ?_ (by assumption))))) hG13)
    clear g9x12
    have g10x13 : G (w11.alloc (.cells #[.int .i64 S6, .int .i64 T6] 23)) w13 := g10x12.trans (G.trans (by (repeat' (first | (with_reducible exact G.refl _) | (with_reducible assumption) | (with_reducible refine G.drewN ?_ _) | (with_reducible refine G.drew ?_) | (with_reducible refine G.alloc ?_ _) | (with_reducible refine G.setCell ?_ (by first | (with_reducible exact Nat.le_refl _) | (simp; done) | (simp; omega) | omega) _) | (with_reducible refine G.trans ?_ (by assumption))))) hG13)
    clear g10x12
    have g11x13 : G (w12.alloc (.cells #[.int .i64 S7, .int .i64 T7] 23)) w13 := G.trans (by (repeat' (first | (with_reducible exact G.refl _) | (with_reducible assumption) | (with_reducible refine G.drewN ?_ _) | (with_reducible refine G.drew ?_) | (with_reducible refine G.alloc ?_ _) | (with_reducible refine G.setCell ?_ (by first | (with_reducible exact Nat.le_refl _) | (simp; done) | (simp; omega) | omega) _) | (with_reducible refine G.trans ?_ (by assumption))))) hG13
    obtain ⟨c0a, c0b, c0c, c0d, c0e, c0f⟩ := trio_later g0x13
    obtain ⟨c1a, c1b, c1c, c1d⟩ := pair_later g1x13
    obtain ⟨c2a, c2b, c2c, c2d⟩ := pair_later g2x13
    obtain ⟨c3a, c3b, c3c, c3d⟩ := pair_later g3x13
    obtain ⟨c4a, c4b⟩ := box_later g4x13
    obtain ⟨c5a, c5b⟩ := box_later g5x13
    obtain ⟨c6a, c6b⟩ := box_later g6x13
    obtain ⟨c7a, c7b⟩ := box_later g7x13
    obtain ⟨c8a, c8b⟩ := box_later g8x13
    obtain ⟨c9a, c9b⟩ := box_later g9x13
    obtain ⟨c10a, c10b⟩ := box_later g10x13
    obtain ⟨c11a, c11b⟩ := box_later g11x13
    obtain ⟨A9, HA9⟩ : ∃ z : Int, Hid (z = S3 * (T7 + 1) + S7 * (T3 + 1)) := ⟨_, rfl⟩
    obtain ⟨B9, HB9⟩ : ∃ z : Int, Hid (z = (T3 + 1) * (T7 + 1)) := ⟨_, rfl⟩
    obtain ⟨S9, HS9⟩ : ∃ z : Int, Hid (z = oN A9 B9) := ⟨_, rfl⟩
    obtain ⟨T9, HT9⟩ : ∃ z : Int, Hid (z = oD A9 B9 - 1) := ⟨_, rfl⟩
    obtain ⟨E9, HE9⟩ : ∃ z : Int, Hid (z = oE A9 B9) := ⟨_, rfl⟩
    have CS9 : Cn S9 T9 := by rw [HS9.out, HT9.out]; exact cn_of A9 B9
    go_wp2_with fail
    refine (Add_any S3 T3 S7 T7 _ CS3 CS7).mono ?_
    rintro e w14 ⟨rfl, hG14⟩
    rw [← HA9.out, ← HB9.out, ← HS9.out, ← HT9.out, ← HE9.out]
    have gw14 : G w w14 := gw13.trans (G.trans (by (repeat' (first | (with_reducible exact G.refl _) | (with_reducible assumption) | (with_reducible refine G.drewN ?_ _) | (with_reducible refine G.drew ?_) | (with_reducible refine G.alloc ?_ _) | (with_reducible refine G.setCell ?_ (by first | (with_reducible exact Nat.le_refl _) | (simp; done) | (simp; omega) | omega) _) | (with_reducible refine G.trans ?_ (by assumption))))) hG14)
    clear gw13
    clear c0a c0b c0c c0d c0e c0f c1a c1b c1c c1d c2a c2b c2c c2d c3a c3b c3c c3d c4a c4b c5a c5b c6a c6b c7a c7b c8a c8b c9a c9b c10a c10b c11a c11b
    have g0x14 : G (((w.alloc (.cells #[.int .i64 a, .int .i64 b] 35)).alloc (.cells #[.int .i64 c, .int .i64 d] 35)).alloc (.cells #[.int .i64 f, .int .i64 g] 35)) w14 := g0x13.trans (G.trans (by (repeat' (first | (with_reducible exact G.refl _) | (with_reducible assumption) | (with_reducible refine G.drewN ?_ _) | (with_reducible refine G.drew ?_) | (with_reducible refine G.alloc ?_ _) | (with_reducible refine G.setCell ?_ (by first | (with_reducible exact Nat.le_refl _) | (simp; done) | (simp; omega) | omega) _) | (with_reducible refine G.trans ?_ (by assumption))))) hG14)
    clear g0x13
    have g1x14 : G ((w1.alloc (.cells #[.int .i64 (N), .int .i64 (O)] 23)).alloc (.cells #[.int .i64 (N), .int .i64 (O + 1)] 28)) w14 := g1x13.trans (G.trans (by (repeat' (first | (with_reducible exact G.refl _) | (with_reducible assumption) | (with_reducible refine G.drewN ?_ _) | (with_reducible refine G.drew ?_) | (with_reducible refine G.alloc ?_ _) | (with_reducible refine G.setCell ?_ (by first | (with_reducible exact Nat.le_refl _) | (simp; done) | (simp; omega) | omega) _) | (with_reducible refine G.trans ?_ (by assumption))))) hG14)
    clear g1x13
    have g2x14 : G ((w2.alloc (.cells #[.int .i64 (M), .int .i64 (U)] 23)).alloc (.cells #[.int .i64 (M), .int .i64 (U + 1)] 28)) w14 := g2x13.trans (G.trans (by (repeat' (first | (with_reducible exact G.refl _) | (with_reducible assumption) | (with_reducible refine G.drewN ?_ _) | (with_reducible refine G.drew ?_) | (with_reducible refine G.alloc ?_ _) | (with_reducible refine G.setCell ?_ (by first | (with_reducible exact Nat.le_refl _) | (simp; done) | (simp; omega) | omega) _) | (with_reducible refine G.trans ?_ (by assumption))))) hG14)
    clear g2x13
    have g3x14 : G ((w3.alloc (.cells #[.int .i64 (L), .int .i64 (V)] 23)).alloc (.cells #[.int .i64 (L), .int .i64 (V + 1)] 28)) w14 := g3x13.trans (G.trans (by (repeat' (first | (with_reducible exact G.refl _) | (with_reducible assumption) | (with_reducible refine G.drewN ?_ _) | (with_reducible refine G.drew ?_) | (with_reducible refine G.alloc ?_ _) | (with_reducible refine G.setCell ?_ (by first | (with_reducible exact Nat.le_refl _) | (simp; done) | (simp; omega) | omega) _) | (with_reducible refine G.trans ?_ (by assumption))))) hG14)
    clear g3x13
    have g4x14 : G (w4.alloc (.cells #[.int .i64 S1, .int .i64 T1] 23)) w14 := g4x13.trans (G.trans (by (repeat' (first | (with_reducible exact G.refl _) | (with_reducible assumption) | (with_reducible refine G.drewN ?_ _) | (with_reducible refine G.drew ?_) | (with_reducible refine G.alloc ?_ _) | (with_reducible refine G.setCell ?_ (by first | (with_reducible exact Nat.le_refl _) | (simp; done) | (simp; omega) | omega) _) | (with_reducible refine G.trans ?_ (by assumption))))) hG14)
    clear g4x13
    have g5x14 : G (w5.alloc (.cells #[.int .i64 (S1), .int .i64 (T1)] 23)) w14 := g5x13.trans (G.trans (by (repeat' (first | (with_reducible exact G.refl _) | (with_reducible assumption) | (with_reducible refine G.drewN ?_ _) | (with_reducible refine G.drew ?_) | (with_reducible refine G.alloc ?_ _) | (with_reducible refine G.setCell ?_ (by first | (with_reducible exact Nat.le_refl _) | (simp; done) | (simp; omega) | omega) _) | (with_reducible refine G.trans ?_ (by assumption))))) hG14)
    clear g5x13
    have g6x14 : G (w6.alloc (.cells #[.int .i64 S3, .int .i64 T3] 23)) w14 := g6x13.trans (G.trans (by (repeat' (first | (with_reducible exact G.refl _) | (with_reducible assumption) | (with_reducible refine G.drewN ?_ _) | (with_reducible refine G.drew ?_) | (with_reducible refine G.alloc ?_ _) | (with_reducible refine G.setCell ?_ (by first | (with_reducible exact Nat.le_refl _) | (simp; done) | (simp; omega) | omega) _) | (with_reducible refine G.trans ?_ (by assumption))))) hG14)
    clear g6x13
    have g7x14 : G (w7.alloc (.cells #[.int .i64 (S3), .int .i64 (T3)] 23)) w14 := g7x13.trans (G.trans (by (repeat' (first | (with_reducible exact G.refl _) | (with_reducible assumption) | (with_reducible refine G.drewN ?_ _) | (with_reducible refine G.drew ?_) | (with_reducible refine G.alloc ?_ _) | (with_reducible refine G.setCell ?_ (by first | (with_reducible exact Nat.le_refl _) | (simp; done) | (simp; omega) | omega) _) | (with_reducible refine G.trans ?_ (by assumption))))) hG14)
    clear g7x13
    have g8x14 : G (w9.alloc (.cells #[.int .i64 S4, .int .i64 T4] 23)) w14 := g8x13.trans (G.trans (by (repeat' (first | (with_reducible exact G.refl _) | (with_reducible assumption) | (with_reducible refine G.drewN ?_ _) | (with_reducible refine G.drew ?_) | (with_reducible refine G.alloc ?_ _) | (with_reducible refine G.setCell ?_ (by first | (with_reducible exact Nat.le_refl _) | (simp; done) | (simp; omega) | omega) _) | (with_reducible refine G.trans ?_ (by assumption))))) hG14)
    clear g8x13
    have g9x14 : G (w10.alloc (.cells #[.int .i64 S5, .int .i64 T5] 23)) w14 := g9x13.trans (G.trans (by (repeat' (first | (with_reducible exact G.refl _) | (with_reducible assumption) | (with_reducible refine G.drewN ?_ _) | (with_reducible refine G.drew ?_) | (with_reducible refine G.alloc ?_ _) | (with_reducible refine G.setCell ?_ (by first | (with_reducible exact Nat.le_refl _) | (simp; done) | (simp; omega) | omega) _) | (with_reducible refine G.trans ?_ (by assumption))))) hG14)
    clear g9x13
    have g10x14 : G (w11.alloc (.cells #[.int .i64 S6, .int .i64 T6] 23)) w14 := g10x13.trans (G.trans (by (repeat' (first | (with_reducible exact G.refl _) | (with_reducible assumption) | (with_reducible refine G.drewN ?_ _) | (with_reducible refine G.drew ?_) | (with_reducible refine G.alloc ?_ _) | (with_reducible refine G.setCell ?_ (by first | (with_reducible exact Nat.le_refl _) | (simp; done) | (simp; omega) | omega) _) | (with_reducible refine G.trans ?_ (by assumption))))) hG14)
    clear g10x13
    have g11x14 : G (w12.alloc (.cells #[.int .i64 S7, .int .i64 T7] 23)) w14 := g11x13.trans (G.trans (by (repeat' (first | (with_reducible exact G.refl _) | (with_reducible assumption) | (with_reducible refine G.drewN ?_ _) | (with_reducible refine G.drew ?_) | (with_reducible refine G.alloc ?_ _) | (with_reducible refine G.setCell ?_ (by first | (with_reducible exact Nat.le_refl _) | (simp; done) | (simp; omega) | omega) _) | (with_reducible refine G.trans ?_ (by assumption))))) hG14)
    clear g11x13
    have g12x14 : G (w13.alloc (.cells #[.int .i64 S8, .int .i64 T8] 23)) w14 := G.trans (by (repeat' (first | (with_reducible exact G.refl _) | (with_reducible assumption) | (with_reducible refine G.drewN ?_ _) | (with_reducible refine G.drew ?_) | (with_reducible refine G.alloc ?_ _) | (with_reducible refine G.setCell ?_ (by first | (with_reducible exact Nat.le_refl _) | (simp; done) | (simp; omega) | omega) _) | (with_reducible refine G.trans ?_ (by assumption))))) hG14
    obtain ⟨c0a, c0b, c0c, c0d, c0e, c0f⟩ := trio_later g0x14
    obtain ⟨c1a, c1b, c1c, c1d⟩ := pair_later g1x14
    obtain ⟨c2a, c2b, c2c, c2d⟩ := pair_later g2x14
    obtain ⟨c3a, c3b, c3c, c3d⟩ := pair_later g3x14
    obtain ⟨c4a, c4b⟩ := box_later g4x14
    obtain ⟨c5a, c5b⟩ := box_later g5x14
    obtain ⟨c6a, c6b⟩ := box_later g6x14
    obtain ⟨c7a, c7b⟩ := box_later g7x14
    obtain ⟨c8a, c8b⟩ := box_later g8x14
    obtain ⟨c9a, c9b⟩ := box_later g9x14
    obtain ⟨c10a, c10b⟩ := box_later g10x14
    obtain ⟨c11a, c11b⟩ := box_later g11x14
    obtain ⟨c12a, c12b⟩ := box_later g12x14
    have P2 : E4 = 0 → E3 = 0 → E7 = 0 → E8 = E9 ∧ S8 = S9 ∧ T8 = T9 := fun z y x => field_dist hN hM hL HA3.out HB3.out HS3.out HT3.out HE3.out HA4.out HB4.out HS4.out HT4.out HE4.out HA7.out HB7.out HS7.out HT7.out HE7.out HA8.out HB8.out HS8.out HT8.out HE8.out HA9.out HB9.out HS9.out HT9.out HE9.out z y x
    have HP2 := Lib.hid P2
    clear P2
    by_cases y4 : E4 = 0
    · first
      | (exfalso; omega)
      | (by_cases y3 : E3 = 0
         · by_cases y7 : E7 = 0
           · obtain ⟨rfl, rfl, rfl⟩ := HP2.out y4 y3 y7
             go_wp2
             go_ret
             exact ⟨rfl, by (repeat' (first | (with_reducible exact G.refl _) | (with_reducible assumption) | (with_reducible refine G.drewN ?_ _) | (with_reducible refine G.drew ?_) | (with_reducible refine G.alloc ?_ _) | (with_reducible refine G.setCell ?_ (by first | (with_reducible exact Nat.le_refl _) | (simp; done) | (simp; omega) | omega) _) | (with_reducible refine G.trans ?_ (by assumption))))⟩
           · have z7 : (E7 == 0) = false := by simpa using y7
             go_wp2
             go_ret
             exact ⟨rfl, by (repeat' (first | (with_reducible exact G.refl _) | (with_reducible assumption) | (with_reducible refine G.drewN ?_ _) | (with_reducible refine G.drew ?_) | (with_reducible refine G.alloc ?_ _) | (with_reducible refine G.setCell ?_ (by first | (with_reducible exact Nat.le_refl _) | (simp; done) | (simp; omega) | omega) _) | (with_reducible refine G.trans ?_ (by assumption))))⟩
         · have z3 : (E3 == 0) = false := by simpa using y3
           go_wp2
           go_ret
           exact ⟨rfl, by (repeat' (first | (with_reducible exact G.refl _) | (with_reducible assumption) | (with_reducible refine G.drewN ?_ _) | (with_reducible refine G.drew ?_) | (with_reducible refine G.alloc ?_ _) | (with_reducible refine G.setCell ?_ (by first | (with_reducible exact Nat.le_refl _) | (simp; done) | (simp; omega) | omega) _) | (with_reducible refine G.trans ?_ (by assumption))))⟩)
    · first
      | (exfalso; omega)
      | (have z4 : (E4 == 0) = false := by simpa using y4
         go_wp2
         go_ret
         exact ⟨rfl, by (repeat' (first | (with_reducible exact G.refl _) | (with_reducible assumption) | (with_reducible refine G.drewN ?_ _) | (with_reducible refine G.drew ?_) | (with_reducible refine G.alloc ?_ _) | (with_reducible refine G.setCell ?_ (by first | (with_reducible exact Nat.le_refl _) | (simp; done) | (simp; omega) | omega) _) | (with_reducible refine G.trans ?_ (by assumption))))⟩)

/-! ### the row and the card -/
open Go.ChangeShapes Go.WideShapes Go.ChangeAt Go.RowKit
set_option maxRecDepth 100000 in
theorem rationalField_lifted (os : Os) (started : os.Started) (H : Type) (enc : TypeId × Value → H) :
    ReturnsInHanded {} Tryd.checked os 5 .any (fun w args => (Rows.rationalFieldSpec.pre enc Tryd.prog Tryd.f5 [] false w args ∧ laidMetH Tryd.prog laidL w) ∧ sizedMet enc Tryd.prog Tryd.f5 (OpenSpec.ofChange Rows.rationalFieldSpec) false w args)
      (Rows.rationalFieldSpec.post enc Tryd.prog Tryd.f5 false true false false) := by
  refine returnsInHanded_of_change_and (C := Tryd.checked) (X := fun w _ => laidMetH Tryd.prog laidL w) (fun _ _ _ hh h => h.of_heap hh) own started (by kernel_rfl) Tryd.func5
    (ChangeSpec.witness_shaped (enc := enc) (C := Tryd.checked) (os := os) (X := fun w _ => laidMetH Tryd.prog laidL w) false (World.doorLaid Tryd.prog 29 os) #[.agg #[.int .i64 0, .int .i64 0], .agg #[.int .i64 0, .int .i64 0], .agg #[.int .i64 0, .int .i64 0]] 8 rfl (World.shaped_of_RefB (by kernel_rfl) (by kernel_rfl)) (by kernel_rfl) (by kernel_rfl) (by kernel_rfl) (door_met os _)) ?_
  intro W base args ds gs before hval0 hW _ _ hL _
  have hval : ∀ (j : Nat) t v, Tryd.f5.params[j]? = some t → args[j]? = some v → Value.okWide Tryd.prog W .any base t v := hval0
  have hW' := hW
  obtain ⟨p, q, hA0, hV, rfl, hfz, hnd⟩ := hW
  have hA : DataW.TrodAll enc Tryd.prog W 0 (fun _ => true) true Tryd.f5.params.toList args.toList ds p := hA0
  rw [Tryd.params5] at hA hval
  obtain ⟨v0, vs0, d0, ds0, p0, q0, hargs, rfl, rfl, h0, r0⟩ := trodAll_cons hA
  obtain ⟨v1, vs1, d1, ds1, p1, q1, rfl, rfl, rfl, h1, r1⟩ := trodAll_cons r0
  obtain ⟨v2, vs2, d2, ds2, p2, q2, rfl, rfl, rfl, h2, r2⟩ := trodAll_cons r1
  obtain ⟨rfl, rfl, rfl⟩ := trodAll_nil r2
  obtain rfl : args = #[v0, v1, v2] := by cases args; simp_all
  obtain ⟨rfl, rfl⟩ := trodVars_none hV
  obtain ⟨a0, b0, rfl, rfl, rfl, w0, u0⟩ := open_arr2 (hval 0 35 v0 rfl rfl) h0
  obtain ⟨bl0, bh0⟩ := bounds_i64 w0
  obtain ⟨cl0, ch0⟩ := bounds_i64 u0
  obtain ⟨a1, b1, rfl, rfl, rfl, w1, u1⟩ := open_arr2 (hval 1 35 v1 rfl rfl) h1
  obtain ⟨bl1, bh1⟩ := bounds_i64 w1
  obtain ⟨cl1, ch1⟩ := bounds_i64 u1
  obtain ⟨a2, b2, rfl, rfl, rfl, w2, u2⟩ := open_arr2 (hval 2 35 v2 rfl rfl) h2
  obtain ⟨bl2, bh2⟩ := bounds_i64 w2
  obtain ⟨cl2, ch2⟩ := bounds_i64 u2
  clear hA0 hval0
  simp only [List.append_nil] at hW'
  refine (field_walk a0 b0 a1 b1 a2 b2 W bl0 bh0 cl0 ch0 bl1 bh1 cl1 ch1 bl2 bh2 cl2 ch2  (tab_of_laid hL)).mono fun e W' ⟨he, hg⟩ => ?_
  subst he
  exact ⟨_, rfl, _, _, _, [], [], [], hW', (trodAll_cons_mk (shut_bool Tryd.underlying4 _) trodAll_mk0), (trodAll_cons_mk (shut_arr2 w0 u0) (trodAll_cons_mk (shut_arr2 w1 u1) (trodAll_cons_mk (shut_arr2 w2 u2) trodAll_mk0))), rfl, Below.frame hg _, fun h => by cases h⟩

theorem rationalField_holds : Rows.RationalFieldSaid :=
  OpenClaim.holds_of_wide 5 Tryd.f5 rfl rfl rfl rfl rfl rfl rfl ⟨rfl, rfl, rfl, rfl, rfl⟩ rfl rfl rfl rfl rfl (by kernel_rfl) Tryd.func5 (by kernel_rfl)
    (of_decide_eq_true (by kernel_rfl)) (by unfold Func.isWrapper; first | (rw [if_pos (by decide +kernel)]; kernel_rfl) | (rw [if_neg (by decide +kernel)]; exact ⟨rfl, rfl⟩))
    (fun os started H enc _ => rationalField_lifted os started H enc)

theorem rationalField_card : Rows.RationalFieldCardSaid :=
  Claim7.holds_tied_plain_at .later [] [.data, .data, .data] true (true, "a73df68f7bdbbf7be44568381a2183df4cb4db464f041c98de75f5391495dad9") false
    rationalField_holds (fun _ h => by cases h) (by kernel_rfl) (fun _ h => by cases h) rationalField_row_tie rfl ⟨rfl, rfl⟩ (by kernel_rfl) rfl
    (fun f fn hf hfn => by
      obtain rfl : f = 5 := Option.some.inj ((show Tryd.prog.funcNamed "hemiola/hemiolalaw01.RationalField" = some 5 by kernel_rfl).symm.trans hf) |>.symm
      obtain rfl : fn = Tryd.f5 := (Option.some.inj (Tryd.func5.symm.trans hfn)).symm
      exact ⟨by kernel_rfl, fun j t ht => by
        rw [Tryd.params5] at ht
        have hm : t ∈ [35, 35, 35] := by simpa using Array.mem_of_getElem? ht
        have hall : ([35, 35, 35].all fun u => !Tryd.prog.wantsStandIn u) = true := by kernel_rfl
        exact (show Tryd.prog.wantsStandIn t = false by simpa using List.all_eq_true.1 hall t hm)⟩)
    (by kernel_rfl)
#print axioms rationalField_card
end Go.Proofs.YtkmmmmbnddkcgaaDoor
