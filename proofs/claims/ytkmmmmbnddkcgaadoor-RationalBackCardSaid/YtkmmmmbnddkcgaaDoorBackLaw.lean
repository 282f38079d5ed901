/- RationalBack: for every two pairs of numbers, brought into the limits: subtracting what was added, and dividing by what was multiplied, lead back; the arguments read as before; the tables that the row lists are tied to the program text; no further condition. -/
import Derived.Test.YtkmmmmbnddkcgaaDoorArr
import Derived.Deep.RegionHeld3
import Derived.Deep.DeepCutAuto
namespace Go.Proofs.YtkmmmmbnddkcgaaDoor
open Go.RowKit QM QB QP
attribute [local go_sem] World.cell?_alloc_some

theorem back_add {N O M U A B S1 T1 E1 A2 B2 S2 T2 E2 : Int} (hN : Cn N O) (hM : Cn M U) (HA : A = N * (U + 1) + M * (O + 1)) (HB : B = (O + 1) * (U + 1)) (HS1 : S1 = oN A B) (HT1 : T1 = oD A B - 1) (HE1 : E1 = oE A B)
    (HA2 : A2 = S1 * (U + 1) + -M * (T1 + 1)) (HB2 : B2 = (T1 + 1) * (U + 1)) (HS2 : S2 = oN A2 B2) (HT2 : T2 = oD A2 B2 - 1) (HE2 : E2 = oE A2 B2) (z : E1 = 0) : E2 = 0 ∧ S2 = N ∧ T2 = O := by
  have cr := @o_cross A B (by omega)
  have db := oD_bd A B
  have t1 : oD A B = T1 + 1 := by omega
  rw [← HS1, t1] at cr
  have o1 := hN.o1; have u1 := hM.o1
  have hd : B2 ≠ 0 := by
    rw [HB2]; exact Int.ne_of_gt (Int.mul_pos (by omega) (by omega))
  obtain ⟨x, y, w⟩ := @o_found A2 B2 N (O + 1) hd hN.n1 hN.n2 (by omega) (by have := hN.o2; omega) hN.co (by rw [HA2, HB2]; rw [HA, HB] at cr; grind)
  exact ⟨by omega, by omega, by omega⟩

theorem back_mul {N O M U A B S1 T1 E1 A2 B2 S2 T2 E2 : Int} (hN : Cn N O) (hM : Cn M U) (HA : A = N * M) (HB : B = (O + 1) * (U + 1)) (HS1 : S1 = oN A B) (HT1 : T1 = oD A B - 1) (HE1 : E1 = oE A B)
    (HA2 : A2 = S1 * (U + 1)) (HB2 : B2 = (T1 + 1) * M) (HS2 : S2 = oN A2 B2) (HT2 : T2 = oD A2 B2 - 1) (HE2 : E2 = oE A2 B2) (z : E1 = 0) (hm : M ≠ 0) : E2 = 0 ∧ S2 = N ∧ T2 = O := by
  have cr := @o_cross A B (by omega)
  have db := oD_bd A B
  have t1 : oD A B = T1 + 1 := by omega
  rw [← HS1, t1] at cr
  have o1 := hN.o1; have u1 := hM.o1
  have hd : B2 ≠ 0 := by
    rw [HB2]; intro q; rcases Int.mul_eq_zero.1 q with q | q <;> omega
  obtain ⟨x, y, w⟩ := @o_found A2 B2 N (O + 1) hd hN.n1 hN.n2 (by omega) (by have := hN.o2; omega) hN.co (by rw [HA2, HB2]; rw [HA, HB] at cr; grind)
  exact ⟨by omega, by omega, by omega⟩

set_option maxRecDepth 100000 in
set_option maxHeartbeats 3200000 in
theorem back_walk (a b c d : Int) (w : World) (h1 : -9223372036854775808 ≤ a) (h2 : a ≤ 9223372036854775807) (h3 : -9223372036854775808 ≤ b) (h4 : b ≤ 9223372036854775807)
    (k1 : -9223372036854775808 ≤ c) (k2 : c ≤ 9223372036854775807) (k3 : -9223372036854775808 ≤ d) (k4 : d ≤ 9223372036854775807) (hT : Tab w) :
    Calls Tryd.prog 6 #[.agg #[.int .i64 a, .int .i64 b], .agg #[.int .i64 c, .int .i64 d]] w fun e w' => e = .returned (.bool true) ∧ G w w' := by
  have HT := Lib.hid hT
  clear hT
  go_enter Tryd.func6, Tryd.ntmps6
  go_wp2_with fail
  refine (of_any a b _ h1 h2 h3 h4).mono ?_
  rintro e w1 ⟨N, O, hN, rfl, hG1⟩
  have gw1 : G w w1 := G.trans (by (repeat' (first | (with_reducible exact G.refl _) | (with_reducible assumption) | (with_reducible refine G.drewN ?_ _) | (with_reducible refine G.drew ?_) | (with_reducible refine G.alloc ?_ _) | (with_reducible refine G.setCell ?_ (by first | (with_reducible exact Nat.le_refl _) | (simp; done) | (simp; omega) | omega) _) | (with_reducible refine G.trans ?_ (by assumption))))) hG1
  have g0x1 : G ((w.alloc (.cells #[.int .i64 (a), .int .i64 (b)] 35)).alloc (.cells #[.int .i64 (c), .int .i64 (d)] 35)) w1 := G.trans (by (repeat' (first | (with_reducible exact G.refl _) | (with_reducible assumption) | (with_reducible refine G.drewN ?_ _) | (with_reducible refine G.drew ?_) | (with_reducible refine G.alloc ?_ _) | (with_reducible refine G.setCell ?_ (by first | (with_reducible exact Nat.le_refl _) | (simp; done) | (simp; omega) | omega) _) | (with_reducible refine G.trans ?_ (by assumption))))) hG1
  obtain ⟨c0a, c0b, c0c, c0d⟩ := pair_later g0x1
  go_wp2_with fail
  refine (of_any c d _ k1 k2 k3 k4).mono ?_
  rintro e w2 ⟨M, U, hM, rfl, hG2⟩
  have gw2 : G w w2 := gw1.trans (G.trans (by (repeat' (first | (with_reducible exact G.refl _) | (with_reducible assumption) | (with_reducible refine G.drewN ?_ _) | (with_reducible refine G.drew ?_) | (with_reducible refine G.alloc ?_ _) | (with_reducible refine G.setCell ?_ (by first | (with_reducible exact Nat.le_refl _) | (simp; done) | (simp; omega) | omega) _) | (with_reducible refine G.trans ?_ (by assumption))))) hG2)
  clear gw1
  clear c0a c0b c0c c0d
  have g0x2 : G ((w.alloc (.cells #[.int .i64 (a), .int .i64 (b)] 35)).alloc (.cells #[.int .i64 (c), .int .i64 (d)] 35)) w2 := g0x1.trans (G.trans (by (repeat' (first | (with_reducible exact G.refl _) | (with_reducible assumption) | (with_reducible refine G.drewN ?_ _) | (with_reducible refine G.drew ?_) | (with_reducible refine G.alloc ?_ _) | (with_reducible refine G.setCell ?_ (by first | (with_reducible exact Nat.le_refl _) | (simp; done) | (simp; omega) | omega) _) | (with_reducible refine G.trans ?_ (by assumption))))) hG2)
  clear g0x1
  have g1x2 : G ((w1.alloc (.cells #[.int .i64 (N), .int .i64 (O)] 23)).alloc (.cells #[.int .i64 (N), .int .i64 (O + 1)] 28)) w2 := G.trans (by (repeat' (first | (with_reducible exact G.refl _) | (with_reducible assumption) | (with_reducible refine G.drewN ?_ _) | (with_reducible refine G.drew ?_) | (with_reducible refine G.alloc ?_ _) | (with_reducible refine G.setCell ?_ (by first | (with_reducible exact Nat.le_refl _) | (simp; done) | (simp; omega) | omega) _) | (with_reducible refine G.trans ?_ (by assumption))))) hG2
  obtain ⟨c0a, c0b, c0c, c0d⟩ := pair_later g0x2
  obtain ⟨c1a, c1b, c1c, c1d⟩ := pair_later g1x2
  obtain ⟨A, HA⟩ : ∃ z : Int, Hid (z = N * (U + 1) + M * (O + 1)) := ⟨_, rfl⟩
  obtain ⟨B, HB⟩ : ∃ z : Int, Hid (z = (O + 1) * (U + 1)) := ⟨_, rfl⟩
  obtain ⟨S1, HS1⟩ : ∃ z : Int, Hid (z = oN A B) := ⟨_, rfl⟩
  obtain ⟨T1, HT1⟩ : ∃ z : Int, Hid (z = oD A B - 1) := ⟨_, rfl⟩
  obtain ⟨E1, HE1⟩ : ∃ z : Int, Hid (z = oE A B) := ⟨_, rfl⟩
  have CS1 : Cn S1 T1 := by rw [HS1.out, HT1.out]; exact cn_of A B
  go_wp2_with fail
  refine (Add_any N O M U _ hN hM).mono ?_
  rintro e w3 ⟨rfl, hG3⟩
  rw [← HA.out, ← HB.out, ← HS1.out, ← HT1.out, ← HE1.out]
  have gw3 : G w w3 := gw2.trans (G.trans (by (repeat' (first | (with_reducible exact G.refl _) | (with_reducible assumption) | (with_reducible refine G.drewN ?_ _) | (with_reducible refine G.drew ?_) | (with_reducible refine G.alloc ?_ _) | (with_reducible refine G.setCell ?_ (by first | (with_reducible exact Nat.le_refl _) | (simp; done) | (simp; omega) | omega) _) | (with_reducible refine G.trans ?_ (by assumption))))) hG3)
  clear gw2
  clear c0a c0b c0c c0d c1a c1b c1c c1d
  have g0x3 : G ((w.alloc (.cells #[.int .i64 (a), .int .i64 (b)] 35)).alloc (.cells #[.int .i64 (c), .int .i64 (d)] 35)) w3 := g0x2.trans (G.trans (by (repeat' (first | (with_reducible exact G.refl _) | (with_reducible assumption) | (with_reducible refine G.drewN ?_ _) | (with_reducible refine G.drew ?_) | (with_reducible refine G.alloc ?_ _) | (with_reducible refine G.setCell ?_ (by first | (with_reducible exact Nat.le_refl _) | (simp; done) | (simp; omega) | omega) _) | (with_reducible refine G.trans ?_ (by assumption))))) hG3)
  clear g0x2
  have g1x3 : G ((w1.alloc (.cells #[.int .i64 (N), .int .i64 (O)] 23)).alloc (.cells #[.int .i64 (N), .int .i64 (O + 1)] 28)) w3 := g1x2.trans (G.trans (by (repeat' (first | (with_reducible exact G.refl _) | (with_reducible assumption) | (with_reducible refine G.drewN ?_ _) | (with_reducible refine G.drew ?_) | (with_reducible refine G.alloc ?_ _) | (with_reducible refine G.setCell ?_ (by first | (with_reducible exact Nat.le_refl _) | (simp; done) | (simp; omega) | omega) _) | (with_reducible refine G.trans ?_ (by assumption))))) hG3)
  clear g1x2
  have g2x3 : G ((w2.alloc (.cells #[.int .i64 (M), .int .i64 (U)] 23)).alloc (.cells #[.int .i64 (M), .int .i64 (U + 1)] 28)) w3 := G.trans (by (repeat' (first | (with_reducible exact G.refl _) | (with_reducible assumption) | (with_reducible refine G.drewN ?_ _) | (with_reducible refine G.drew ?_) | (with_reducible refine G.alloc ?_ _) | (with_reducible refine G.setCell ?_ (by first | (with_reducible exact Nat.le_refl _) | (simp; done) | (simp; omega) | omega) _) | (with_reducible refine G.trans ?_ (by assumption))))) hG3
  obtain ⟨c0a, c0b, c0c, c0d⟩ := pair_later g0x3
  obtain ⟨c1a, c1b, c1c, c1d⟩ := pair_later g1x3
  obtain ⟨c2a, c2b, c2c, c2d⟩ := pair_later g2x3
  obtain ⟨A2, HA2⟩ : ∃ z : Int, Hid (z = S1 * (U + 1) + -M * (T1 + 1)) := ⟨_, rfl⟩
  obtain ⟨B2, HB2⟩ : ∃ z : Int, Hid (z = (T1 + 1) * (U + 1)) := ⟨_, rfl⟩
  obtain ⟨S2, HS2⟩ : ∃ z : Int, Hid (z = oN A2 B2) := ⟨_, rfl⟩
  obtain ⟨T2, HT2⟩ : ∃ z : Int, Hid (z = oD A2 B2 - 1) := ⟨_, rfl⟩
  obtain ⟨E2, HE2⟩ : ∃ z : Int, Hid (z = oE A2 B2) := ⟨_, rfl⟩
  have CS2 : Cn S2 T2 := by rw [HS2.out, HT2.out]; exact cn_of A2 B2
  go_wp2_with fail
  refine (Sub_any S1 T1 M U _ CS1 hM).mono ?_
  rintro e w4 ⟨rfl, hG4⟩
  rw [← HA2.out, ← HB2.out, ← HS2.out, ← HT2.out, ← HE2.out]
  have gw4 : G w w4 := gw3.trans (G.trans (by (repeat' (first | (with_reducible exact G.refl _) | (with_reducible assumption) | (with_reducible refine G.drewN ?_ _) | (with_reducible refine G.drew ?_) | (with_reducible refine G.alloc ?_ _) | (with_reducible refine G.setCell ?_ (by first | (with_reducible exact Nat.le_refl _) | (simp; done) | (simp; omega) | omega) _) | (with_reducible refine G.trans ?_ (by assumption))))) hG4)
  clear gw3
  clear c0a c0b c0c c0d c1a c1b c1c c1d c2a c2b c2c c2d
  have g0x4 : G ((w.alloc (.cells #[.int .i64 (a), .int .i64 (b)] 35)).alloc (.cells #[.int .i64 (c), .int .i64 (d)] 35)) w4 := g0x3.trans (G.trans (by (repeat' (first | (with_reducible exact G.refl _) | (with_reducible assumption) | (with_reducible refine G.drewN ?_ _) | (with_reducible refine G.drew ?_) | (with_reducible refine G.alloc ?_ _) | (with_reducible refine G.setCell ?_ (by first | (with_reducible exact Nat.le_refl _) | (simp; done) | (simp; omega) | omega) _) | (with_reducible refine G.trans ?_ (by assumption))))) hG4)
  clear g0x3
  have g1x4 : G ((w1.alloc (.cells #[.int .i64 (N), .int .i64 (O)] 23)).alloc (.cells #[.int .i64 (N), .int .i64 (O + 1)] 28)) w4 := g1x3.trans (G.trans (by (repeat' (first | (with_reducible exact G.refl _) | (with_reducible assumption) | (with_reducible refine G.drewN ?_ _) | (with_reducible refine G.drew ?_) | (with_reducible refine G.alloc ?_ _) | (with_reducible refine G.setCell ?_ (by first | (with_reducible exact Nat.le_refl _) | (simp; done) | (simp; omega) | omega) _) | (with_reducible refine G.trans ?_ (by assumption))))) hG4)
  clear g1x3
  have g2x4 : G ((w2.alloc (.cells #[.int .i64 (M), .int .i64 (U)] 23)).alloc (.cells #[.int .i64 (M), .int .i64 (U + 1)] 28)) w4 := g2x3.trans (G.trans (by (repeat' (first | (with_reducible exact G.refl _) | (with_reducible assumption) | (with_reducible refine G.drewN ?_ _) | (with_reducible refine G.drew ?_) | (with_reducible refine G.alloc ?_ _) | (with_reducible refine G.setCell ?_ (by first | (with_reducible exact Nat.le_refl _) | (simp; done) | (simp; omega) | omega) _) | (with_reducible refine G.trans ?_ (by assumption))))) hG4)
  clear g2x3
  have g3x4 : G (w3.alloc (.cells #[.int .i64 S1, .int .i64 T1] 23)) w4 := G.trans (by (repeat' (first | (with_reducible exact G.refl _) | (with_reducible assumption) | (with_reducible refine G.drewN ?_ _) | (with_reducible refine G.drew ?_) | (with_reducible refine G.alloc ?_ _) | (with_reducible refine G.setCell ?_ (by first | (with_reducible exact Nat.le_refl _) | (simp; done) | (simp; omega) | omega) _) | (with_reducible refine G.trans ?_ (by assumption))))) hG4
  obtain ⟨c0a, c0b, c0c, c0d⟩ := pair_later g0x4
  obtain ⟨c1a, c1b, c1c, c1d⟩ := pair_later g1x4
  obtain ⟨c2a, c2b, c2c, c2d⟩ := pair_later g2x4
  obtain ⟨c3a, c3b⟩ := box_later g3x4
  obtain ⟨A3, HA3⟩ : ∃ z : Int, Hid (z = N * M) := ⟨_, rfl⟩
  obtain ⟨B3, HB3⟩ : ∃ z : Int, Hid (z = (O + 1) * (U + 1)) := ⟨_, rfl⟩
  obtain ⟨S3, HS3⟩ : ∃ z : Int, Hid (z = oN A3 B3) := ⟨_, rfl⟩
  obtain ⟨T3, HT3⟩ : ∃ z : Int, Hid (z = oD A3 B3 - 1) := ⟨_, rfl⟩
  obtain ⟨E3, HE3⟩ : ∃ z : Int, Hid (z = oE A3 B3) := ⟨_, rfl⟩
  have CS3 : Cn S3 T3 := by rw [HS3.out, HT3.out]; exact cn_of A3 B3
  go_wp2_with fail
  refine (Mul_any N O M U _ hN hM).mono ?_
  rintro e w5 ⟨rfl, hG5⟩
  rw [← HA3.out, ← HB3.out, ← HS3.out, ← HT3.out, ← HE3.out]
  have gw5 : G w w5 := gw4.trans (G.trans (by (repeat' (first | (with_reducible exact G.refl _) | (with_reducible assumption) | (with_reducible refine G.drewN ?_ _) | (with_reducible refine G.drew ?_) | (with_reducible refine G.alloc ?_ _) | (with_reducible refine G.setCell ?_ (by first | (with_reducible exact Nat.le_refl _) | (simp; done) | (simp; omega) | omega) _) | (with_reducible refine G.trans ?_ (by assumption))))) hG5)
  clear gw4
  clear c0a c0b c0c c0d c1a c1b c1c c1d c2a c2b c2c c2d c3a c3b
  have g0x5 : G ((w.alloc (.cells #[.int .i64 (a), .int .i64 (b)] 35)).alloc (.cells #[.int .i64 (c), .int .i64 (d)] 35)) w5 := g0x4.trans (G.trans (by (repeat' (first | (with_reducible exact G.refl _) | (with_reducible assumption) | (with_reducible refine G.drewN ?_ _) | (with_reducible refine G.drew ?_) | (with_reducible refine G.alloc ?_ _) | (with_reducible refine G.setCell ?_ (by first | (with_reducible exact Nat.le_refl _) | (simp; done) | (simp; omega) | omega) _) | (with_reducible refine G.trans ?_ (by assumption))))) hG5)
  clear g0x4
  have g1x5 : G ((w1.alloc (.cells #[.int .i64 (N), .int .i64 (O)] 23)).alloc (.cells #[.int .i64 (N), .int .i64 (O + 1)] 28)) w5 := g1x4.trans (G.trans (by (repeat' (first | (with_reducible exact G.refl _) | (with_reducible assumption) | (with_reducible refine G.drewN ?_ _) | (with_reducible refine G.drew ?_) | (with_reducible refine G.alloc ?_ _) | (with_reducible refine G.setCell ?_ (by first | (with_reducible exact Nat.le_refl _) | (simp; done) | (simp; omega) | omega) _) | (with_reducible refine G.trans ?_ (by assumption))))) hG5)
  clear g1x4
  have g2x5 : G ((w2.alloc (.cells #[.int .i64 (M), .int .i64 (U)] 23)).alloc (.cells #[.int .i64 (M), .int .i64 (U + 1)] 28)) w5 := g2x4.trans (G.trans (by (repeat' (first | (with_reducible exact G.refl _) | (with_reducible assumption) | (with_reducible refine G.drewN ?_ _) | (with_reducible refine G.drew ?_) | (with_reducible refine G.alloc ?_ _) | (with_reducible refine G.setCell ?_ (by first | (with_reducible exact Nat.le_refl _) | (simp; done) | (simp; omega) | omega) _) | (with_reducible refine G.trans ?_ (by assumption))))) hG5)
  clear g2x4
  have g3x5 : G (w3.alloc (.cells #[.int .i64 S1, .int .i64 T1] 23)) w5 := g3x4.trans (G.trans (by (repeat' (first | (with_reducible exact G.refl _) | (with_reducible assumption) | (with_reducible refine G.drewN ?_ _) | (with_reducible refine G.drew ?_) | (with_reducible refine G.alloc ?_ _) | (with_reducible refine G.setCell ?_ (by first | (with_reducible exact Nat.le_refl _) | (simp; done) | (simp; omega) | omega) _) | (with_reducible refine G.trans ?_ (by assumption))))) hG5)
  clear g3x4
  have g4x5 : G (w4.alloc (.cells #[.int .i64 S2, .int .i64 T2] 23)) w5 := G.trans (by (repeat' (first | (with_reducible exact G.refl _) | (with_reducible assumption) | (with_reducible refine G.drewN ?_ _) | (with_reducible refine G.drew ?_) | (with_reducible refine G.alloc ?_ _) | (with_reducible refine G.setCell ?_ (by first | (with_reducible exact Nat.le_refl _) | (simp; done) | (simp; omega) | omega) _) | (with_reducible refine G.trans ?_ (by assumption))))) hG5
  obtain ⟨c0a, c0b, c0c, c0d⟩ := pair_later g0x5
  obtain ⟨c1a, c1b, c1c, c1d⟩ := pair_later g1x5
  obtain ⟨c2a, c2b, c2c, c2d⟩ := pair_later g2x5
  obtain ⟨c3a, c3b⟩ := box_later g3x5
  obtain ⟨c4a, c4b⟩ := box_later g4x5
  obtain ⟨A4, HA4⟩ : ∃ z : Int, Hid (z = S3 * (U + 1)) := ⟨_, rfl⟩
  obtain ⟨B4, HB4⟩ : ∃ z : Int, Hid (z = (T3 + 1) * M) := ⟨_, rfl⟩
  obtain ⟨S4, HS4⟩ : ∃ z : Int, Hid (z = oN A4 B4) := ⟨_, rfl⟩
  obtain ⟨T4, HT4⟩ : ∃ z : Int, Hid (z = oD A4 B4 - 1) := ⟨_, rfl⟩
  obtain ⟨E4, HE4⟩ : ∃ z : Int, Hid (z = oE A4 B4) := ⟨_, rfl⟩
  have CS4 : Cn S4 T4 := by rw [HS4.out, HT4.out]; exact cn_of A4 B4
  go_wp2_with fail
  refine (Div_any S3 T3 M U _ CS3 hM).mono ?_
  rintro e w6 ⟨rfl, hG6⟩
  rw [← HA4.out, ← HB4.out, ← HS4.out, ← HT4.out, ← HE4.out]
  have gw6 : G w w6 := gw5.trans (G.trans (by (repeat' (first | (with_reducible exact G.refl _) | (with_reducible assumption) | (with_reducible refine G.drewN ?_ _) | (with_reducible refine G.drew ?_) | (with_reducible refine G.alloc ?_ _) | (with_reducible refine G.setCell ?_ (by first | (with_reducible exact Nat.le_refl _) | (simp; done) | (simp; omega) | omega) _) | (with_reducible refine G.trans ?_ (by assumption))))) hG6)
  clear gw5
  clear c0a c0b c0c c0d c1a c1b c1c c1d c2a c2b c2c c2d c3a c3b c4a c4b
  have g0x6 : G ((w.alloc (.cells #[.int .i64 (a), .int .i64 (b)] 35)).alloc (.cells #[.int .i64 (c), .int .i64 (d)] 35)) w6 := g0x5.trans (G.trans (by (repeat' (first | (with_reducible exact G.refl _) | (with_reducible assumption) | (with_reducible refine G.drewN ?_ _) | (with_reducible refine G.drew ?_) | (with_reducible refine G.alloc ?_ _) | (with_reducible refine G.setCell ?_ (by first | (with_reducible exact Nat.le_refl _) | (simp; done) | (simp; omega) | omega) _) | (with_reducible refine G.trans ?_ (by assumption))))) hG6)
  clear g0x5
  have g1x6 : G ((w1.alloc (.cells #[.int .i64 (N), .int .i64 (O)] 23)).alloc (.cells #[.int .i64 (N), .int .i64 (O + 1)] 28)) w6 := g1x5.trans (G.trans (by (repeat' (first | (with_reducible exact G.refl _) | (with_reducible assumption) | (with_reducible refine G.drewN ?_ _) | (with_reducible refine G.drew ?_) | (with_reducible refine G.alloc ?_ _) | (with_reducible refine G.setCell ?_ (by first | (with_reducible exact Nat.le_refl _) | (simp; done) | (simp; omega) | omega) _) | (with_reducible refine G.trans ?_ (by assumption))))) hG6)
  clear g1x5
  have g2x6 : G ((w2.alloc (.cells #[.int .i64 (M), .int .i64 (U)] 23)).alloc (.cells #[.int .i64 (M), .int .i64 (U + 1)] 28)) w6 := g2x5.trans (G.trans (by (repeat' (first | (with_reducible exact G.refl _) | (with_reducible assumption) | (with_reducible refine G.drewN ?_ _) | (with_reducible refine G.drew ?_) | (with_reducible refine G.alloc ?_ _) | (with_reducible refine G.setCell ?_ (by first | (with_reducible exact Nat.le_refl _) | (simp; done) | (simp; omega) | omega) _) | (with_reducible refine G.trans ?_ (by assumption))))) hG6)
  clear g2x5
  have g3x6 : G (w3.alloc (.cells #[.int .i64 S1, .int .i64 T1] 23)) w6 := g3x5.trans (G.trans (by (repeat' (first | (with_reducible exact G.refl _) | (with_reducible assumption) | (with_reducible refine G.drewN ?_ _) | (with_reducible refine G.drew ?_) | (with_reducible refine G.alloc ?_ _) | (with_reducible refine G.setCell ?_ (by first | (with_reducible exact Nat.le_refl _) | (simp; done) | (simp; omega) | omega) _) | (with_reducible refine G.trans ?_ (by assumption))))) hG6)
  clear g3x5
  have g4x6 : G (w4.alloc (.cells #[.int .i64 S2, .int .i64 T2] 23)) w6 := g4x5.trans (G.trans (by (repeat' (first | (with_reducible exact G.refl _) | (with_reducible assumption) | (with_reducible refine G.drewN ?_ _) | (with_reducible refine G.drew ?_) | (with_reducible refine G.alloc ?_ _) | (with_reducible refine G.setCell ?_ (by first | (with_reducible exact Nat.le_refl _) | (simp; done) | (simp; omega) | omega) _) | (with_reducible refine G.trans ?_ (by assumption))))) hG6)
  clear g4x5
  have g5x6 : G (w5.alloc (.cells #[.int .i64 S3, .int .i64 T3] 23)) w6 := G.trans (by (repeat' (first | (with_reducible exact G.refl _) | (with_reducible assumption) | (with_reducible refine G.drewN ?_ _) | (with_reducible refine G.drew ?_) | (with_reducible refine G.alloc ?_ _) | (with_reducible refine G.setCell ?_ (by first | (with_reducible exact Nat.le_refl _) | (simp; done) | (simp; omega) | omega) _) | (with_reducible refine G.trans ?_ (by assumption))))) hG6
  obtain ⟨c0a, c0b, c0c, c0d⟩ := pair_later g0x6
  obtain ⟨c1a, c1b, c1c, c1d⟩ := pair_later g1x6
  obtain ⟨c2a, c2b, c2c, c2d⟩ := pair_later g2x6
  obtain ⟨c3a, c3b⟩ := box_later g3x6
  obtain ⟨c4a, c4b⟩ := box_later g4x6
  obtain ⟨c5a, c5b⟩ := box_later g5x6
  go_wp2_with fail
  refine (known_any _ (HT.out.later (by (repeat' (first | (with_reducible exact G.refl _) | (with_reducible assumption) | (with_reducible refine G.drewN ?_ _) | (with_reducible refine G.drew ?_) | (with_reducible refine G.alloc ?_ _) | (with_reducible refine G.setCell ?_ (by first | (with_reducible exact Nat.le_refl _) | (simp; done) | (simp; omega) | omega) _) | (with_reducible refine G.trans ?_ (by assumption))))))).mono ?_
  rintro e w7 ⟨rfl, hG7⟩
  have gw7 : G w w7 := gw6.trans (G.trans (by (repeat' (first | (with_reducible exact G.refl _) | (with_reducible assumption) | (with_reducible refine G.drewN ?_ _) | (with_reducible refine G.drew ?_) | (with_reducible refine G.alloc ?_ _) | (with_reducible refine G.setCell ?_ (by first | (with_reducible exact Nat.le_refl _) | (simp; done) | (simp; omega) | omega) _) | (with_reducible refine G.trans ?_ (by assumption))))) hG7)
  clear gw6
  clear c0a c0b c0c c0d c1a c1b c1c c1d c2a c2b c2c c2d c3a c3b c4a c4b c5a c5b
  have g0x7 : G ((w.alloc (.cells #[.int .i64 (a), .int .i64 (b)] 35)).alloc (.cells #[.int .i64 (c), .int .i64 (d)] 35)) w7 := g0x6.trans (G.trans (by (repeat' (first | (with_reducible exact G.refl _) | (with_reducible assumption) | (with_reducible refine G.drewN ?_ _) | (with_reducible refine G.drew ?_) | (with_reducible refine G.alloc ?_ _) | (with_reducible refine G.setCell ?_ (by first | (with_reducible exact Nat.le_refl _) | (simp; done) | (simp; omega) | omega) _) | (with_reducible refine G.trans ?_ (by assumption))))) hG7)
  clear g0x6
  have g1x7 : G ((w1.alloc (.cells #[.int .i64 (N), .int .i64 (O)] 23)).alloc (.cells #[.int .i64 (N), .int .i64 (O + 1)] 28)) w7 := g1x6.trans (G.trans (by (repeat' (first | (with_reducible exact G.refl _) | (with_reducible assumption) | (with_reducible refine G.drewN ?_ _) | (with_reducible refine G.drew ?_) | (with_reducible refine G.alloc ?_ _) | (with_reducible refine G.setCell ?_ (by first | (with_reducible exact Nat.le_refl _) | (simp; done) | (simp; omega) | omega) _) | (with_reducible refine G.trans ?_ (by assumption))))) hG7)
  clear g1x6
  have g2x7 : G ((w2.alloc (.cells #[.int .i64 (M), .int .i64 (U)] 23)).alloc (.cells #[.int .i64 (M), .int .i64 (U + 1)] 28)) w7 := g2x6.trans (G.trans (by (repeat' (first | (with_reducible exact G.refl _) | (with_reducible assumption) | (with_reducible refine G.drewN ?_ _) | (with_reducible refine G.drew ?_) | (with_reducible refine G.alloc ?_ _) | (with_reducible refine G.setCell ?_ (by first | (with_reducible exact Nat.le_refl _) | (simp; done) | (simp; omega) | omega) _) | (with_reducible refine G.trans ?_ (by assumption))))) hG7)
  clear g2x6
  have g3x7 : G (w3.alloc (.cells #[.int .i64 S1, .int .i64 T1] 23)) w7 := g3x6.trans (G.trans (by (repeat' (first | (with_reducible exact G.refl _) | (with_reducible assumption) | (with_reducible refine G.drewN ?_ _) | (with_reducible refine G.drew ?_) | (with_reducible refine G.alloc ?_ _) | (with_reducible refine G.setCell ?_ (by first | (with_reducible exact Nat.le_refl _) | (simp; done) | (simp; omega) | omega) _) | (with_reducible refine G.trans ?_ (by assumption))))) hG7)
  clear g3x6
  have g4x7 : G (w4.alloc (.cells #[.int .i64 S2, .int .i64 T2] 23)) w7 := g4x6.trans (G.trans (by (repeat' (first | (with_reducible exact G.refl _) | (with_reducible assumption) | (with_reducible refine G.drewN ?_ _) | (with_reducible refine G.drew ?_) | (with_reducible refine G.alloc ?_ _) | (with_reducible refine G.setCell ?_ (by first | (with_reducible exact Nat.le_refl _) | (simp; done) | (simp; omega) | omega) _) | (with_reducible refine G.trans ?_ (by assumption))))) hG7)
  clear g4x6
  have g5x7 : G (w5.alloc (.cells #[.int .i64 S3, .int .i64 T3] 23)) w7 := g5x6.trans (G.trans (by (repeat' (first | (with_reducible exact G.refl _) | (with_reducible assumption) | (with_reducible refine G.drewN ?_ _) | (with_reducible refine G.drew ?_) | (with_reducible refine G.alloc ?_ _) | (with_reducible refine G.setCell ?_ (by first | (with_reducible exact Nat.le_refl _) | (simp; done) | (simp; omega) | omega) _) | (with_reducible refine G.trans ?_ (by assumption))))) hG7)
  clear g5x6
  have g6x7 : G (w6.alloc (.cells #[.int .i64 S4, .int .i64 T4] 23)) w7 := G.trans (by (repeat' (first | (with_reducible exact G.refl _) | (with_reducible assumption) | (with_reducible refine G.drewN ?_ _) | (with_reducible refine G.drew ?_) | (with_reducible refine G.alloc ?_ _) | (with_reducible refine G.setCell ?_ (by first | (with_reducible exact Nat.le_refl _) | (simp; done) | (simp; omega) | omega) _) | (with_reducible refine G.trans ?_ (by assumption))))) hG7
  obtain ⟨c0a, c0b, c0c, c0d⟩ := pair_later g0x7
  obtain ⟨c1a, c1b, c1c, c1d⟩ := pair_later g1x7
  obtain ⟨c2a, c2b, c2c, c2d⟩ := pair_later g2x7
  obtain ⟨c3a, c3b⟩ := box_later g3x7
  obtain ⟨c4a, c4b⟩ := box_later g4x7
  obtain ⟨c5a, c5b⟩ := box_later g5x7
  obtain ⟨c6a, c6b⟩ := box_later g6x7
  have P1 : E1 = 0 → E2 = 0 ∧ S2 = N ∧ T2 = O := fun z => back_add hN hM HA.out HB.out HS1.out HT1.out HE1.out HA2.out HB2.out HS2.out HT2.out HE2.out z
  have P2 : E3 = 0 → M ≠ 0 → E4 = 0 ∧ S4 = N ∧ T4 = O := fun z y => back_mul hN hM HA3.out HB3.out HS3.out HT3.out HE3.out HA4.out HB4.out HS4.out HT4.out HE4.out z y
  have HP1 := Lib.hid P1
  have HP2 := Lib.hid P2
  clear P1 P2 HA HB HS1 HT1 HE1 HA2 HB2 HS2 HT2 HE2 HA3 HB3 HS3 HT3 HE3 HA4 HB4 HS4 HT4 HE4
  by_cases z1 : E1 = 0
  · obtain ⟨rfl, rfl, rfl⟩ := HP1.out z1
    subst z1
    by_cases z3 : E3 = 0
    · by_cases zM : M = 0
      · subst zM z3
        clear HP1 HP2
        go_wp2_with fail
        refine (Sign_any _ _ _ hM).mono ?_
        rintro e w9 ⟨rfl, hG9⟩
        rw [cm_self]
        go_wp2
        go_ret
        exact ⟨rfl, G.trans gw7 (G.trans (by (repeat' (first | (with_reducible exact G.refl _) | (with_reducible assumption) | (with_reducible refine G.drewN ?_ _) | (with_reducible refine G.drew ?_) | (with_reducible refine G.alloc ?_ _) | (with_reducible refine G.setCell ?_ (by first | (with_reducible exact Nat.le_refl _) | (simp; done) | (simp; omega) | omega) _) | (with_reducible refine G.trans ?_ (by assumption))))) hG9)⟩
      · obtain ⟨rfl, rfl, rfl⟩ := HP2.out z3 zM
        subst z3
        clear HP1 HP2
        have zM2 : (cm M 0 == 0) = false := by unfold cm; simp; split <;> (try split) <;> omega
        have zM3 : ¬ cm M 0 = 0 := by simpa using zM2
        go_wp2_with fail
        refine (Sign_any _ _ _ hM).mono ?_
        rintro e w9 ⟨rfl, hG9⟩
        obtain ⟨cz0, cz1, _, _⟩ := pair_later (g1x7.trans (G.trans (by (repeat' (first | (with_reducible exact G.refl _) | (with_reducible assumption) | (with_reducible refine G.drewN ?_ _) | (with_reducible refine G.drew ?_) | (with_reducible refine G.alloc ?_ _) | (with_reducible refine G.setCell ?_ (by first | (with_reducible exact Nat.le_refl _) | (simp; done) | (simp; omega) | omega) _) | (with_reducible refine G.trans ?_ (by assumption))))) hG9))
        obtain ⟨cz2, cz3⟩ := box_later (g6x7.trans (G.trans (by (repeat' (first | (with_reducible exact G.refl _) | (with_reducible assumption) | (with_reducible refine G.drewN ?_ _) | (with_reducible refine G.drew ?_) | (with_reducible refine G.alloc ?_ _) | (with_reducible refine G.setCell ?_ (by first | (with_reducible exact Nat.le_refl _) | (simp; done) | (simp; omega) | omega) _) | (with_reducible refine G.trans ?_ (by assumption))))) hG9))
        go_wp2
        go_ret
        exact ⟨rfl, G.trans gw7 (G.trans (by (repeat' (first | (with_reducible exact G.refl _) | (with_reducible assumption) | (with_reducible refine G.drewN ?_ _) | (with_reducible refine G.drew ?_) | (with_reducible refine G.alloc ?_ _) | (with_reducible refine G.setCell ?_ (by first | (with_reducible exact Nat.le_refl _) | (simp; done) | (simp; omega) | omega) _) | (with_reducible refine G.trans ?_ (by assumption))))) hG9)⟩
    · have z4 : (E3 == 0) = false := by simpa using z3
      clear HP1 HP2
      go_wp2
      go_ret
      exact ⟨rfl, by (repeat' (first | (with_reducible exact G.refl _) | (with_reducible assumption) | (with_reducible refine G.drewN ?_ _) | (with_reducible refine G.drew ?_) | (with_reducible refine G.alloc ?_ _) | (with_reducible refine G.setCell ?_ (by first | (with_reducible exact Nat.le_refl _) | (simp; done) | (simp; omega) | omega) _) | (with_reducible refine G.trans ?_ (by assumption))))⟩
  · have z2 : (E1 == 0) = false := by simpa using z1
    by_cases z3 : E3 = 0
    · by_cases zM : M = 0
      · subst zM z3
        clear HP1 HP2
        go_wp2_with fail
        refine (Sign_any _ _ _ hM).mono ?_
        rintro e w9 ⟨rfl, hG9⟩
        rw [cm_self]
        go_wp2
        go_ret
        exact ⟨rfl, G.trans gw7 (G.trans (by (repeat' (first | (with_reducible exact G.refl _) | (with_reducible assumption) | (with_reducible refine G.drewN ?_ _) | (with_reducible refine G.drew ?_) | (with_reducible refine G.alloc ?_ _) | (with_reducible refine G.setCell ?_ (by first | (with_reducible exact Nat.le_refl _) | (simp; done) | (simp; omega) | omega) _) | (with_reducible refine G.trans ?_ (by assumption))))) hG9)⟩
      · obtain ⟨rfl, rfl, rfl⟩ := HP2.out z3 zM
        subst z3
        clear HP1 HP2
        have zM2 : (cm M 0 == 0) = false := by unfold cm; simp; split <;> (try split) <;> omega
        have zM3 : ¬ cm M 0 = 0 := by simpa using zM2
        go_wp2_with fail
        refine (Sign_any _ _ _ hM).mono ?_
        rintro e w9 ⟨rfl, hG9⟩
        obtain ⟨cz0, cz1, _, _⟩ := pair_later (g1x7.trans (G.trans (by (repeat' (first | (with_reducible exact G.refl _) | (with_reducible assumption) | (with_reducible refine G.drewN ?_ _) | (with_reducible refine G.drew ?_) | (with_reducible refine G.alloc ?_ _) | (with_reducible refine G.setCell ?_ (by first | (with_reducible exact Nat.le_refl _) | (simp; done) | (simp; omega) | omega) _) | (with_reducible refine G.trans ?_ (by assumption))))) hG9))
        obtain ⟨cz2, cz3⟩ := box_later (g6x7.trans (G.trans (by (repeat' (first | (with_reducible exact G.refl _) | (with_reducible assumption) | (with_reducible refine G.drewN ?_ _) | (with_reducible refine G.drew ?_) | (with_reducible refine G.alloc ?_ _) | (with_reducible refine G.setCell ?_ (by first | (with_reducible exact Nat.le_refl _) | (simp; done) | (simp; omega) | omega) _) | (with_reducible refine G.trans ?_ (by assumption))))) hG9))
        go_wp2
        go_ret
        exact ⟨rfl, G.trans gw7 (G.trans (by (repeat' (first | (with_reducible exact G.refl _) | (with_reducible assumption) | (with_reducible refine G.drewN ?_ _) | (with_reducible refine G.drew ?_) | (with_reducible refine G.alloc ?_ _) | (with_reducible refine G.setCell ?_ (by first | (with_reducible exact Nat.le_refl _) | (simp; done) | (simp; omega) | omega) _) | (with_reducible refine G.trans ?_ (by assumption))))) hG9)⟩
    · have z4 : (E3 == 0) = false := by simpa using z3
      clear HP1 HP2
      go_wp2
      go_ret
      exact ⟨rfl, by (repeat' (first | (with_reducible exact G.refl _) | (with_reducible assumption) | (with_reducible refine G.drewN ?_ _) | (with_reducible refine G.drew ?_) | (with_reducible refine G.alloc ?_ _) | (with_reducible refine G.setCell ?_ (by first | (with_reducible exact Nat.le_refl _) | (simp; done) | (simp; omega) | omega) _) | (with_reducible refine G.trans ?_ (by assumption))))⟩

/-! ### the row and the card -/
open Go.ChangeShapes Go.WideShapes Go.ChangeAt Go.RowKit
set_option maxRecDepth 100000 in
theorem rationalBack_lifted (os : Os) (started : os.Started) (H : Type) (enc : TypeId × Value → H) :
    ReturnsInHanded {} Tryd.checked os 6 .any (fun w args => (Rows.rationalBackSpec.pre enc Tryd.prog Tryd.f6 [] false w args ∧ laidMetH Tryd.prog laidL w) ∧ sizedMet enc Tryd.prog Tryd.f6 (OpenSpec.ofChange Rows.rationalBackSpec) false w args)
      (Rows.rationalBackSpec.post enc Tryd.prog Tryd.f6 false true false false) := by
  refine returnsInHanded_of_change_and (C := Tryd.checked) (X := fun w _ => laidMetH Tryd.prog laidL w) (fun _ _ _ hh h => h.of_heap hh) own started (by kernel_rfl) Tryd.func6
    (ChangeSpec.witness_shaped (enc := enc) (C := Tryd.checked) (os := os) (X := fun w _ => laidMetH Tryd.prog laidL w) false (World.doorLaid Tryd.prog 29 os) #[.agg #[.int .i64 0, .int .i64 0], .agg #[.int .i64 0, .int .i64 0]] 8 rfl (World.shaped_of_RefB (by kernel_rfl) (by kernel_rfl)) (by kernel_rfl) (by kernel_rfl) (by kernel_rfl) (door_met os _)) ?_
  intro W base args ds gs before hval0 hW _ _ hL _
  have hval : ∀ (j : Nat) t v, Tryd.f6.params[j]? = some t → args[j]? = some v → Value.okWide Tryd.prog W .any base t v := hval0
  have hW' := hW
  obtain ⟨p, q, hA0, hV, rfl, hfz, hnd⟩ := hW
  have hA : DataW.TrodAll enc Tryd.prog W 0 (fun _ => true) true Tryd.f6.params.toList args.toList ds p := hA0
  rw [Tryd.params6] at hA hval
  obtain ⟨v0, vs0, d0, ds0, p0, q0, hargs, rfl, rfl, h0, r0⟩ := trodAll_cons hA
  obtain ⟨v1, vs1, d1, ds1, p1, q1, rfl, rfl, rfl, h1, r1⟩ := trodAll_cons r0
  obtain ⟨rfl, rfl, rfl⟩ := trodAll_nil r1
  obtain rfl : args = #[v0, v1] := by cases args; simp_all
  obtain ⟨rfl, rfl⟩ := trodVars_none hV
  obtain ⟨a0, b0, rfl, rfl, rfl, w0, u0⟩ := open_arr2 (hval 0 35 v0 rfl rfl) h0
  obtain ⟨bl0, bh0⟩ := bounds_i64 w0
  obtain ⟨cl0, ch0⟩ := bounds_i64 u0
  obtain ⟨a1, b1, rfl, rfl, rfl, w1, u1⟩ := open_arr2 (hval 1 35 v1 rfl rfl) h1
  obtain ⟨bl1, bh1⟩ := bounds_i64 w1
  obtain ⟨cl1, ch1⟩ := bounds_i64 u1
  clear hA0 hval0
  simp only [List.append_nil] at hW'
  refine (back_walk a0 b0 a1 b1 W bl0 bh0 cl0 ch0 bl1 bh1 cl1 ch1  (tab_of_laid hL)).mono fun e W' ⟨he, hg⟩ => ?_
  subst he
  exact ⟨_, rfl, _, _, _, [], [], [], hW', (trodAll_cons_mk (shut_bool Tryd.underlying4 _) trodAll_mk0), (trodAll_cons_mk (shut_arr2 w0 u0) (trodAll_cons_mk (shut_arr2 w1 u1) trodAll_mk0)), rfl, Below.frame hg _, fun h => by cases h⟩

theorem rationalBack_holds : Rows.RationalBackSaid :=
  OpenClaim.holds_of_wide 6 Tryd.f6 rfl rfl rfl rfl rfl rfl rfl ⟨rfl, rfl, rfl, rfl, rfl⟩ rfl rfl rfl rfl rfl (by kernel_rfl) Tryd.func6 (by kernel_rfl)
    (of_decide_eq_true (by kernel_rfl)) (by unfold Func.isWrapper; first | (rw [if_pos (by decide +kernel)]; kernel_rfl) | (rw [if_neg (by decide +kernel)]; exact ⟨rfl, rfl⟩))
    (fun os started H enc _ => rationalBack_lifted os started H enc)

theorem rationalBack_card : Rows.RationalBackCardSaid :=
  Claim7.holds_tied_plain_at .later [] [.data, .data, .data] true (true, "a73df68f7bdbbf7be44568381a2183df4cb4db464f041c98de75f5391495dad9") false
    rationalBack_holds (fun _ h => by cases h) (by kernel_rfl) (fun _ h => by cases h) rationalBack_row_tie rfl ⟨rfl, rfl⟩ (by kernel_rfl) rfl
    (fun f fn hf hfn => by
      obtain rfl : f = 6 := Option.some.inj ((show Tryd.prog.funcNamed "hemiola/hemiolalaw01.RationalBack" = some 6 by kernel_rfl).symm.trans hf) |>.symm
      obtain rfl : fn = Tryd.f6 := (Option.some.inj (Tryd.func6.symm.trans hfn)).symm
      exact ⟨by kernel_rfl, fun j t ht => by
        rw [Tryd.params6] at ht
        have hm : t ∈ [35, 35] := by simpa using Array.mem_of_getElem? ht
        have hall : ([35, 35].all fun u => !Tryd.prog.wantsStandIn u) = true := by kernel_rfl
        exact (show Tryd.prog.wantsStandIn t = false by simpa using List.all_eq_true.1 hall t hm)⟩)
    (by kernel_rfl)
#print axioms rationalBack_card
end Go.Proofs.YtkmmmmbnddkcgaaDoor
