import Derived.Test.YtabaiklagobimaaT5
import Derived.Test.YtabaiklagobimaaLaid
/-! Tuplets: divisors, the length of an event, all lengths. -/
namespace Go.Proofs.Ytabaiklagobimaa
open Go.RowKit
attribute [local go_sem] World.cell?_alloc_some

def Drawn (w w' : World) : Prop := ∃ k, w' = w.drewN k
theorem Drawn.more {a b : World} (h : Drawn a b) (n : Nat) : Drawn a (b.drewN n) := by
  obtain ⟨k, rfl⟩ := h
  exact ⟨k + n, World.drewN_drewN _ _ _⟩
theorem Drawn.g {a b : World} (h : Drawn a b) : G a b := by
  obtain ⟨k, rfl⟩ := h
  exact (G.refl a).drewN k
theorem gcd_step (p q : Nat) : Nat.gcd q (p % q) = Nat.gcd p q := by
  rw [Nat.gcd_comm p q, Nat.gcd_rec q p, Nat.gcd_comm]
set_option maxHeartbeats 800000 in
theorem divisor_any (a b : Nat) (w : World) (h2 : a ≤ 1000000) (h4 : b ≤ 1000000) :
    Calls Try.prog 48 #[.int .i64 a, .int .i64 b] w fun e w' => e = .returned (.int .i64 (Nat.gcd a b)) ∧ Drawn w w' := by
  go_enter Try.func48, Try.ntmps48
  go_wp2
  go_loopw [0, 1] (fun x y wr => ∃ p q : Nat, x = .int .i64 p ∧ y = .int .i64 q ∧ p ≤ 1000000 ∧ q ≤ 1000000 ∧ Hid (Nat.gcd p q = Nat.gcd a b) ∧ Drawn w wr) (fun _ y _ => (intOf y).toNat)
  case atStart => exact ⟨a, b, rfl, rfl, h2, h4, rfl, ⟨0, rfl⟩⟩
  case round =>
    obtain ⟨p, q, rfl, rfl, hp, hq, hg, hG⟩ := hrel
    by_cases hz : q = 0
    · subst hz
      go_wp2
      go_ret
      refine ⟨ret_int ?_, hG⟩
      show (p : Int) = _
      rw [← hg.out]; simp
    · have hlt : p % q < q := Nat.mod_lt _ (by omega)
      have hm : (p : Int).tmod (q : Int) = ((p % q : Nat) : Int) := by rw [Int.tmod_eq_emod_of_nonneg (by omega)]; rfl
      have hq1 : ((q : Int) == 0) = false := beq_false_of_ne (by omega)
      go_wp2
      go_quiet (fail)
      go_wp2
      go_roundw
      case rel => exact ⟨q, p % q, rfl, by first | go_num | (rw [hm]) | simp [hm], by omega, by omega, (gcd_step p q).trans hg.out, hG.more _⟩
      case measure => simp [intOf]; omega

set_option maxRecDepth 100000 in
set_option maxHeartbeats 3200000 in
theorem length_any (a : Option Addr) (l : List Tu) (n c : Nat) (e x : Int) (w : World) (hn : l.length = n) (hl : n ≤ 20) (h1 : TusAt w a l) (hF : Fit l) :
    Calls Try.prog 49 #[.slice a n c, .int .i64 e, .int .i64 x] w fun r w' => r = .returned (.tuple #[.int .i64 (lenV l e x), .int .i64 (lenE l e x)]) ∧ G w w' := by
  obtain ⟨V, hV⟩ : ∃ z : Int, Hid (z = lenV l e x) := ⟨_, rfl⟩
  obtain ⟨E, hE⟩ : ∃ z : Int, Hid (z = lenE l e x) := ⟨_, rfl⟩
  rw [← hV.out, ← hE.out]
  by_cases k1 : x < 0
  · have HV := Lib.hid (show V = 0 by rw [hV.out]; exact if_neg (by omega))
    have HE := Lib.hid (show E = 2 by rw [hE.out]; exact if_neg (by omega))
    clear h1 hF
    go_enter Try.func49, Try.ntmps49
    go_wp2_with fail
    go_returns
    exact ⟨by rw [HV.out, HE.out]; first | done | rfl, by (repeat' (first | (with_reducible exact G.refl _) | (with_reducible assumption) | (with_reducible refine G.drewN ?_ _) | (with_reducible refine G.drew ?_) | (with_reducible refine G.alloc ?_ _) | (with_reducible refine G.setCell ?_ (by first | (with_reducible exact Nat.le_refl _) | (simp; done) | (simp; omega) | omega) _) | (with_reducible refine G.trans ?_ (by assumption))))⟩
  by_cases k2 : 7741440 < x
  · have HV := Lib.hid (show V = 0 by rw [hV.out]; exact if_neg (by omega))
    have HE := Lib.hid (show E = 2 by rw [hE.out]; exact if_neg (by omega))
    clear h1 hF
    go_enter Try.func49, Try.ntmps49
    go_wp2_with fail
    go_returns
    exact ⟨by rw [HV.out, HE.out]; first | done | rfl, by (repeat' (first | (with_reducible exact G.refl _) | (with_reducible assumption) | (with_reducible refine G.drewN ?_ _) | (with_reducible refine G.drew ?_) | (with_reducible refine G.alloc ?_ _) | (with_reducible refine G.setCell ?_ (by first | (with_reducible exact Nat.le_refl _) | (simp; done) | (simp; omega) | omega) _) | (with_reducible refine G.trans ?_ (by assumption))))⟩
  obtain ⟨⟨n0, n1⟩, d0, d1⟩ := hF.all e
  have HH := Lib.hid (And.intro h1 hF)
  obtain ⟨N, hN⟩ : ∃ z : Int, Hid (z = (prT l e).1) := ⟨_, rfl⟩
  obtain ⟨D, hD⟩ : ∃ z : Int, Hid (z = (prT l e).2) := ⟨_, rfl⟩
  rw [← hN.out] at n0 n1
  rw [← hD.out] at d0 d1
  have p1 : x * N ≤ 7741440 * 32768 := Int.mul_le_mul (by omega) n1 (by omega) (by omega)
  have p2 : 0 ≤ x * N := Int.mul_nonneg (by omega) (by omega)
  have q1 := IntWalk.i64_in (x * N) (by omega)
  have q2 : (x * N).tmod D = x * N % D := Int.tmod_eq_emod_of_nonneg p2
  have q3 : (x * N).tdiv D = x * N / D := Int.tdiv_eq_ediv_of_nonneg p2
  have q4 : (D == 0) = false := beq_false_of_ne (by omega)
  have q6 : 0 ≤ x * N / D := Int.ediv_nonneg p2 (by omega)
  have q7 : x * N / D ≤ x * N := Int.ediv_le_self _ p2
  have q5 := IntWalk.i64_in (x * N / D) (by omega)
  clear h1 hF n0 n1 p1 p2 q6 q7
  by_cases k3 : x * N % D = 0
  · have HV := Lib.hid (show V = x * N / D by rw [hV.out]; unfold lenV; rw [if_pos (by omega), ← hN.out, ← hD.out, if_pos k3])
    have HE := Lib.hid (show E = 0 by rw [hE.out]; unfold lenE; rw [if_pos (by omega), ← hN.out, ← hD.out, if_pos k3])
    go_enter Try.func49, Try.ntmps49
    go_wp2_with fail
    refine (product_any a l n c e _ hn hl (HH.out.1.later (by (repeat' (first | (with_reducible exact G.refl _) | (with_reducible assumption) | (with_reducible refine G.drewN ?_ _) | (with_reducible refine G.drew ?_) | (with_reducible refine G.alloc ?_ _) | (with_reducible refine G.setCell ?_ (by first | (with_reducible exact Nat.le_refl _) | (simp; done) | (simp; omega) | omega) _) | (with_reducible refine G.trans ?_ (by assumption)))))) HH.out.2).mono ?_
    rintro r w1 ⟨rfl, hG⟩
    rw [← hN.out, ← hD.out]
    go_wp2_with fail
    go_returns
    exact ⟨by rw [HV.out, HE.out]; first | rfl | simp [q3], by (repeat' (first | (with_reducible exact G.refl _) | (with_reducible assumption) | (with_reducible refine G.drewN ?_ _) | (with_reducible refine G.drew ?_) | (with_reducible refine G.alloc ?_ _) | (with_reducible refine G.setCell ?_ (by first | (with_reducible exact Nat.le_refl _) | (simp; done) | (simp; omega) | omega) _) | (with_reducible refine G.trans ?_ (by assumption))))⟩
  · have HV := Lib.hid (show V = 0 by rw [hV.out]; unfold lenV; rw [if_pos (by omega), ← hN.out, ← hD.out, if_neg k3])
    have HE := Lib.hid (show E = 16 by rw [hE.out]; unfold lenE; rw [if_pos (by omega), ← hN.out, ← hD.out, if_neg k3])
    have k4 : (x * N % D == 0) = false := beq_false_of_ne k3
    go_enter Try.func49, Try.ntmps49
    go_wp2_with fail
    refine (product_any a l n c e _ hn hl (HH.out.1.later (by (repeat' (first | (with_reducible exact G.refl _) | (with_reducible assumption) | (with_reducible refine G.drewN ?_ _) | (with_reducible refine G.drew ?_) | (with_reducible refine G.alloc ?_ _) | (with_reducible refine G.setCell ?_ (by first | (with_reducible exact Nat.le_refl _) | (simp; done) | (simp; omega) | omega) _) | (with_reducible refine G.trans ?_ (by assumption)))))) HH.out.2).mono ?_
    rintro r w1 ⟨rfl, hG⟩
    rw [← hN.out, ← hD.out]
    go_wp2_with fail
    go_returns
    exact ⟨by rw [HV.out, HE.out]; first | done | rfl, by (repeat' (first | (with_reducible exact G.refl _) | (with_reducible assumption) | (with_reducible refine G.drewN ?_ _) | (with_reducible refine G.drew ?_) | (with_reducible refine G.alloc ?_ _) | (with_reducible refine G.setCell ?_ (by first | (with_reducible exact Nat.le_refl _) | (simp; done) | (simp; omega) | omega) _) | (with_reducible refine G.trans ?_ (by assumption))))⟩
end Go.Proofs.Ytabaiklagobimaa
