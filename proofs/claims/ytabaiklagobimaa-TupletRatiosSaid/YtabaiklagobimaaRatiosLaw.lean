/- TupletRatios: for any up to 20 tuplets and any event, Depth and Ratio agree with the definition: the number of tuplets that contain the event, and the product of their ratios in lowest terms; the arguments read as before; no further condition. -/
import Derived.Test.YtabaiklagobimaaRows
import Derived.Test.YtabaiklagobimaaT8
import Derived.Test.YtabaiklagobimaaR2
import Derived.Test.YtabaiklagobimaaLaid
namespace Go.Proofs.Ytabaiklagobimaa
open Go.RowKit Go.ChangeShapes Go.WideShapes
attribute [local go_sem] World.cell?_alloc_some
theorem ra_facts {l : List Tu} (hk : ckT 128 l = 0) (e : Int) : ∃ N D X Y : Nat, (prT l e).1 = (N : Int) ∧ (prT l e).2 = (D : Int) ∧ 1 ≤ N ∧ N ≤ 32768 ∧ 1 ≤ D ∧ D ≤ 32768 ∧ (raT l e).1 = (X : Int) ∧ (raT l e).2 = (Y : Int) ∧ 1 ≤ X ∧ 1 ≤ Y ∧ X ≤ N ∧ Y ≤ D ∧ Nat.gcd X Y = 1 ∧ X * D = Y * N := by
  obtain ⟨⟨n0, n1⟩, d0, d1⟩ := (ckT_fit hk).all e
  obtain ⟨N, hN⟩ : ∃ z : Nat, (prT l e).1 = (z : Int) := ⟨(prT l e).1.toNat, by omega⟩
  obtain ⟨D, hD⟩ : ∃ z : Nat, (prT l e).2 = (z : Int) := ⟨(prT l e).2.toNat, by omega⟩
  have hg0 : 0 < Nat.gcd N D := Nat.gcd_pos_of_pos_left _ (by omega)
  have k1 : N / Nat.gcd N D * Nat.gcd N D = N := Nat.div_mul_cancel (Nat.gcd_dvd_left N D)
  have k2 : D / Nat.gcd N D * Nat.gcd N D = D := Nat.div_mul_cancel (Nat.gcd_dvd_right N D)
  refine ⟨N, D, N / Nat.gcd N D, D / Nat.gcd N D, hN, hD, by omega, by omega, by omega, by omega, ?_, ?_, ?_, ?_, Nat.div_le_self _ _, Nat.div_le_self _ _, ?_, ?_⟩
  · unfold raT; rw [if_pos hk, hN, hD]; simp
  · unfold raT; rw [if_pos hk, hN, hD]; simp
  · exact Nat.div_pos (Nat.le_of_dvd (by omega) (Nat.gcd_dvd_left N D)) hg0
  · exact Nat.div_pos (Nat.le_of_dvd (by omega) (Nat.gcd_dvd_right N D)) hg0
  · rw [Nat.gcd_div (Nat.gcd_dvd_left N D) (Nat.gcd_dvd_right N D), Nat.div_self hg0]
  · generalize Nat.gcd N D = g at *
    generalize N / g = x at *
    generalize D / g = y at *
    rw [← k1, ← k2]
    exact Nat.mul_left_comm _ _ _

set_option maxRecDepth 100000 in
set_option maxHeartbeats 12800000 in
theorem ratios_walk (a : Option Addr) (l0 : List Tu) (c : Nat) (e : Int) (w : World) (hc : l0.length ≤ c) (_ : c ≤ maxLen) (h1 : TusAt w a l0) (_ : a = none → c = 0) (hwf : ∀ n ∈ l0, (Lit.int .i64 n.c).wf = true) (_ : -9223372036854775808 ≤ e) (_ : e ≤ 9223372036854775807) :
    Calls Try.prog 5 #[.slice a l0.length c, .int .i64 e] w fun x w' => x = .returned (.bool true) ∧ G w w' := by
  by_cases k20 : (l0.length : Int) ≤ 20
  · have H1 := Lib.hid h1
    have HC := Lib.hid (cb_of hwf)
    have HN := Lib.hid (show l0.length = l0.length from rfl)
    have HK := Lib.hid (show l0.length ≤ 20 by omega)
    have m3 : (l0.length : Int) ≤ (c : Int) := by omega
    generalize l0 = l at *
    obtain ⟨n, hn⟩ : ∃ z : Nat, Hid (l.length = z) := ⟨_, rfl⟩
    rw [hn.out] at HK k20 m3 ⊢
    clear HN h1 hwf hc
    have HN := hn
    clear hn
    go_enter Try.func5, Try.ntmps5
    go_wp2_with fail
    refine (to_any a l n c _ HN.out HK.out (H1.out.later (by (repeat' (first | (with_reducible exact G.refl _) | (with_reducible assumption) | (with_reducible refine G.drewN ?_ _) | (with_reducible refine G.drew ?_) | (with_reducible refine G.alloc ?_ _) | (with_reducible refine G.setCell ?_ (by first | (with_reducible exact Nat.le_refl _) | (simp; done) | (simp; omega) | omega) _) | (with_reducible refine G.trans ?_ (by assumption))))))).mono ?_
    rintro x w1 ⟨v, rfl, hR, hG1⟩
    have g1 : G w w1 := G.trans (by (repeat' (first | (with_reducible exact G.refl _) | (with_reducible refine G.drewN ?_ _) | (with_reducible refine G.drew ?_) | (with_reducible refine G.alloc ?_ _)))) hG1
    obtain ⟨a2, c2, rfl, hT2⟩ := hR.tus
    rw [HN.out]
    have H2 := Lib.hid hT2
    clear hR hT2
    go_wp2_with fail
    refine (Depth_any a l n c _ _ HN.out HK.out (H1.out.later (by (repeat' (first | (with_reducible exact G.refl _) | (with_reducible assumption) | (with_reducible refine G.drewN ?_ _) | (with_reducible refine G.drew ?_) | (with_reducible refine G.alloc ?_ _) | (with_reducible refine G.setCell ?_ (by first | (with_reducible exact Nat.le_refl _) | (simp; done) | (simp; omega) | omega) _) | (with_reducible refine G.trans ?_ (by assumption)))))) HC.out).mono ?_
    rintro x w2 ⟨rfl, hG2⟩
    have g2 : G w1 w2 := G.trans (by (repeat' (first | (with_reducible exact G.refl _) | (with_reducible refine G.drewN ?_ _) | (with_reducible refine G.drew ?_) | (with_reducible refine G.alloc ?_ _)))) hG2
    go_wp2_with fail
    refine (Ratio_any a l n c _ _ HN.out HK.out (H1.out.later (g1.trans (g2.trans (by (repeat' (first | (with_reducible exact G.refl _) | (with_reducible assumption) | (with_reducible refine G.drewN ?_ _) | (with_reducible refine G.drew ?_) | (with_reducible refine G.alloc ?_ _) | (with_reducible refine G.setCell ?_ (by first | (with_reducible exact Nat.le_refl _) | (simp; done) | (simp; omega) | omega) _) | (with_reducible refine G.trans ?_ (by assumption)))))))) HC.out).mono ?_
    rintro x w3 ⟨rfl, hG3⟩
    have g3 : G w1 w3 := g2.trans (G.trans (by (repeat' (first | (with_reducible exact G.refl _) | (with_reducible refine G.drewN ?_ _) | (with_reducible refine G.drew ?_) | (with_reducible refine G.alloc ?_ _)))) hG3)
    go_wp2_with fail
    refine (known_any _).mono ?_
    rintro x w4 ⟨rfl, hG4⟩
    have g4 : G w1 w4 := g3.trans (G.trans (by (repeat' (first | (with_reducible exact G.refl _) | (with_reducible refine G.drewN ?_ _) | (with_reducible refine G.drew ?_) | (with_reducible refine G.alloc ?_ _)))) hG4)
    go_wp2_with fail
    refine (rCheck_any a2 l n c2 128 _ HN.out (H2.out.later (g4.trans (by (repeat' (first | (with_reducible exact G.refl _) | (with_reducible assumption) | (with_reducible refine G.drewN ?_ _) | (with_reducible refine G.drew ?_) | (with_reducible refine G.alloc ?_ _) | (with_reducible refine G.setCell ?_ (by first | (with_reducible exact Nat.le_refl _) | (simp; done) | (simp; omega) | omega) _) | (with_reducible refine G.trans ?_ (by assumption)))))))).mono ?_
    rintro x w5 ⟨rfl, hG5⟩
    have g5 : G w1 w5 := g4.trans (G.trans (by (repeat' (first | (with_reducible exact G.refl _) | (with_reducible refine G.drewN ?_ _) | (with_reducible refine G.drew ?_) | (with_reducible refine G.alloc ?_ _)))) hG5)
    by_cases hk : ckT 128 l = 0
    rotate_left
    · have HD := Lib.hid (show depT l e = 0 from if_neg hk)
      have HX := Lib.hid (show raT l e = (0, 0) from if_neg hk)
      obtain ⟨E, hE⟩ : ∃ z : Int, Hid (z = ckT 128 l) := ⟨_, rfl⟩
      rw [← hE.out] at hk
      rw [← hE.out, HD.out, HX.out]
      have e3 : (E == 0) = false := beq_false_of_ne hk
      have e4 : (E != 0) = true := by simp [bne, e3]
      clear hk
      go_wp2_with fail
      go_ret
      exact ⟨by first | rfl | simp, g1.trans (g5.trans (by (repeat' (first | (with_reducible exact G.refl _) | (with_reducible assumption) | (with_reducible refine G.drewN ?_ _) | (with_reducible refine G.drew ?_) | (with_reducible refine G.alloc ?_ _) | (with_reducible refine G.setCell ?_ (by first | (with_reducible exact Nat.le_refl _) | (simp; done) | (simp; omega) | omega) _) | (with_reducible refine G.trans ?_ (by assumption))))))⟩
    have HCK := Lib.hid hk
    have HF := Lib.hid (ckT_fit hk)
    have HD := Lib.hid (show depT l e = cntT l e from if_pos hk)
    obtain ⟨N, D, X, Y, hN, hD, hn0, hn1, hd0, hd1, hX, hY, hX0, hY0, hXN, hYD, hcop, hcr⟩ := ra_facts hk e
    have HP := Lib.hid (show prT l e = ((N : Int), (D : Int)) from Prod.ext hN hD)
    have HXY := Lib.hid (show raT l e = ((X : Int), (Y : Int)) from Prod.ext hX hY)
    rw [HCK.out, HXY.out, HD.out]
    obtain ⟨dd, hdd⟩ : ∃ z : Nat, Hid (cntT l e = z) := ⟨_, rfl⟩
    rw [hdd.out]
    have HC1 := Lib.hid hcop
    have HB := Lib.hid (And.intro hn1 hd1)
    have f1 : (1 : Int) ≤ (X : Int) := by omega
    have f2 : (1 : Int) ≤ (Y : Int) := by omega
    have f3 : ¬ ((X : Int) < 1) := by omega
    have f4 : ¬ ((Y : Int) < 1) := by omega
    have f5 : (X : Int) * (D : Int) = (Y : Int) * (N : Int) := by exact_mod_cast hcr
    have p1 : (Y : Int) * (N : Int) ≤ 32768 * 32768 := Int.mul_le_mul (by omega) (by omega) (by omega) (by omega)
    have p2 : 0 ≤ (Y : Int) * (N : Int) := Int.mul_nonneg (by omega) (by omega)
    have q6 := IntWalk.i64_in ((Y : Int) * (N : Int)) (by omega)
    have HXB := Lib.hid (show X ≤ 32768 ∧ Y ≤ 32768 by omega)
    clear hk hN hD hX hY hcop hcr p1 p2 hn0 hn1 hd0 hd1 hX0 hY0 hXN hYD
    go_wp2_with fail
    go_loopg [9, 10, 11, 12] l.length (fun q x1 x2 x3 x4 wr => ∃ (i : Nat) (d : Nat) (A B : Int), x1 = .int .i64 d ∧ x2 = .int .i64 A ∧ x3 = .int .i64 B ∧ x4 = .int .i64 i ∧ q = l.length - i ∧ i ≤ l.length ∧ d ≤ i ∧ Hid (cntT (l.take i) e = d) ∧ Hid (prT (l.take i) e = (A, B)) ∧ G w1 wr)
    case atStart => exact ⟨0, 0, 1, 1, rfl, rfl, rfl, rfl, by omega, by omega, by omega, Lib.hid rfl, Lib.hid rfl, g5.trans (by (repeat' (first | (with_reducible exact G.refl _) | (with_reducible assumption) | (with_reducible refine G.drewN ?_ _) | (with_reducible refine G.drew ?_) | (with_reducible refine G.alloc ?_ _) | (with_reducible refine G.setCell ?_ (by first | (with_reducible exact Nat.le_refl _) | (simp; done) | (simp; omega) | omega) _) | (with_reducible refine G.trans ?_ (by assumption)))))⟩
    case round =>
      obtain ⟨i, d, A, B, rfl, rfl, rfl, rfl, hq, hi, hdi, hCt, hPr, gr⟩ := hrel
      have HQ := Lib.hid hq
      clear hq
      by_cases hin : i < l.length
      · obtain ⟨⟨f, cc, aa, nn⟩, hp⟩ : ∃ z, l[i]? = some z := ⟨l[i], List.getElem?_eq_getElem hin⟩
        rcases H2.out with hz | ⟨b0, of, rfl, fc⟩
        · rw [hz] at hin; exact absurd hin (by simp)
        have FC := Lib.hid fc
        obtain ⟨x0, x1, x2, x3⟩ := (fc i _ hp).later gr
        dsimp only at x0 x1 x2 x3
        have hone := HF.out.one _ (List.mem_of_getElem? hp)
        have HO := Lib.hid (show (-9223372036854775808 ≤ f + cc ∧ f + cc ≤ 9223372036854775807) by have := hone.1; have := hone.2.1; have := hone.2.2.1; dsimp only at *; omega)
        have hpr := HF.out.pr e i
        rw [hPr.out] at hpr
        obtain ⟨⟨n0, n1⟩, d0, d1⟩ := hpr
        obtain ⟨⟨a0, a1⟩, m0, m1⟩ := hone.2.2.2
        dsimp only at n0 n1 d0 d1 a0 a1 m0 m1
        have HNX := Lib.hid (show prT (l.take (i + 1)) e = if InT ⟨f, cc, aa, nn⟩ e then (A * nn, B * aa) else (A, B) by rw [pr_next e hp, hPr.out]; rfl)
        have HCX := Lib.hid (cnt_next e hp)
        have HP2 := Lib.hid hp
        have b1 : (0 : Int) ≤ (i : Int) := by omega
        have b2 : (i : Int) < (n : Int) := by have := HN.out; omega
        have HL2 := Lib.hid (show (i : Int) < (l.length : Int) by omega)
        have q1 := IntWalk.i64_in ((i : Int) + 1) (by have := HK.out; have := HN.out; omega)
        have q2 := IntWalk.i64_in ((d : Int) + 1) (by have := HK.out; have := HN.out; omega)
        have p1 : A * nn ≤ 32768 * 32 := Int.mul_le_mul n1 m1 (by omega) (by omega)
        have p2 : 0 ≤ A * nn := Int.mul_nonneg (by omega) (by omega)
        have p3 : B * aa ≤ 32768 * 32 := Int.mul_le_mul d1 a1 (by omega) (by omega)
        have p4 : 0 ≤ B * aa := Int.mul_nonneg (by omega) (by omega)
        have q3 := IntWalk.i64_in (A * nn) (by omega)
        have q4 := IntWalk.i64_in (B * aa) (by omega)
        clear fc hone hp n0 n1 d0 d1 a0 a1 m0 m1 p1 p2 p3 p4
        by_cases hit : InT ⟨f, cc, aa, nn⟩ e
        · have Hn := Lib.hid (show prT (l.take (i + 1)) e = (A * nn, B * aa) by rw [HNX.out, if_pos hit])
          have HCN := Lib.hid (show cntT (l.take (i + 1)) e = d + 1 by rw [HCX.out, if_pos hit, hCt.out])
          have HIT := Lib.hid hit
          clear hit
          go_wp2_with fail
          refine (rIn_any _ _ _ _ _ _ HO.out.1 HO.out.2).mono ?_
          rintro x w6 ⟨rfl, hG6⟩
          rw [decide_eq_true HIT.out]
          have gN : G wr w6 := G.trans (by (repeat' (first | (with_reducible exact G.refl _) | (with_reducible refine G.drewN ?_ _) | (with_reducible refine G.drew ?_) | (with_reducible refine G.alloc ?_ _)))) hG6
          have y2 := gN.at x2
          have y3 := gN.at x3
          clear x0 x1 x2 x3
          go_wp2_with fail
          go_big_region
          all_goals
            go_wp2_with fail
            go_roundg (l.length - (i + 1))
            case measure => have := HQ.out; have := HL2.out; omega
            case rel => exact ⟨i + 1, d + 1, A * nn, B * aa, by go_num, by go_num, by go_num, by go_num, rfl, by have := HL2.out; omega, by omega, HCN, Hn, by (repeat' (first | (with_reducible exact G.refl _) | (with_reducible assumption) | (with_reducible refine G.drewN ?_ _) | (with_reducible refine G.drew ?_) | (with_reducible refine G.alloc ?_ _) | (with_reducible refine G.setCell ?_ (by first | (with_reducible exact Nat.le_refl _) | (simp; done) | (simp; omega) | omega) _) | (with_reducible refine G.trans ?_ (by assumption))))⟩
        · have Hn := Lib.hid (show prT (l.take (i + 1)) e = (A, B) by rw [HNX.out, if_neg hit])
          have HCN := Lib.hid (show cntT (l.take (i + 1)) e = d by rw [HCX.out, if_neg hit, hCt.out])
          have HIT := Lib.hid hit
          clear hit
          go_wp2_with fail
          refine (rIn_any _ _ _ _ _ _ HO.out.1 HO.out.2).mono ?_
          rintro x w6 ⟨rfl, hG6⟩
          rw [decide_eq_false HIT.out]
          have gN : G wr w6 := G.trans (by (repeat' (first | (with_reducible exact G.refl _) | (with_reducible refine G.drewN ?_ _) | (with_reducible refine G.drew ?_) | (with_reducible refine G.alloc ?_ _)))) hG6
          clear x0 x1 x2 x3
          go_wp2_with fail
          go_roundg (l.length - (i + 1))
          case measure => have := HQ.out; have := HL2.out; omega
          case rel => exact ⟨i + 1, d, A, B, rfl, rfl, rfl, by go_num, rfl, by have := HL2.out; omega, by omega, HCN, Hn, by (repeat' (first | (with_reducible exact G.refl _) | (with_reducible assumption) | (with_reducible refine G.drewN ?_ _) | (with_reducible refine G.drew ?_) | (with_reducible refine G.alloc ?_ _) | (with_reducible refine G.setCell ?_ (by first | (with_reducible exact Nat.le_refl _) | (simp; done) | (simp; omega) | omega) _) | (with_reducible refine G.trans ?_ (by assumption))))⟩
      · have hii : i = l.length := by omega
        subst hii
        rw [List.take_length] at hCt hPr
        have e1 : d = dd := hCt.out.symm.trans hdd.out
        have e2 : A = (N : Int) := by have := HP.out.symm.trans hPr.out; exact (Prod.mk.inj this).1.symm
        have e3 : B = (D : Int) := by have := HP.out.symm.trans hPr.out; exact (Prod.mk.inj this).2.symm
        subst e1 e2 e3
        have g6 := g1.trans gr
        rw [HN.out]
        go_wp2_with fail
        go_loopg [13, 14] Y (fun q x1 x2 wr => ∃ p r : Nat, x1 = .int .i64 p ∧ x2 = .int .i64 r ∧ q = r ∧ p ≤ 32768 ∧ r ≤ 32768 ∧ Hid (Nat.gcd p r = 1) ∧ G w wr)
        case atStart => exact ⟨X, Y, rfl, rfl, rfl, HXB.out.1, HXB.out.2, HC1, g6.trans (by (repeat' (first | (with_reducible exact G.refl _) | (with_reducible assumption) | (with_reducible refine G.drewN ?_ _) | (with_reducible refine G.drew ?_) | (with_reducible refine G.alloc ?_ _) | (with_reducible refine G.setCell ?_ (by first | (with_reducible exact Nat.le_refl _) | (simp; done) | (simp; omega) | omega) _) | (with_reducible refine G.trans ?_ (by assumption)))))⟩
        case round =>
          obtain ⟨p, r, rfl, rfl, hq2, hp2, hr2, hg2, gr2⟩ := hrel
          have HQ2 := Lib.hid hq2
          clear hq2
          by_cases hz : r = 0
          · subst hz
            obtain rfl : p = 1 := by have := hg2.out; simpa using this
            go_wp2_with fail
            go_ret
            exact ⟨by first | rfl | simp, gr2⟩
          · have hlt : p % r < r := Nat.mod_lt _ (by omega)
            have hm : (p : Int).tmod (r : Int) = ((p % r : Nat) : Int) := by rw [Int.tmod_eq_emod_of_nonneg (by omega)]; rfl
            have hq1 : ((r : Int) == 0) = false := beq_false_of_ne (by omega)
            have hq3 : (r == 0) = false := beq_false_of_ne hz
            have HGS := Lib.hid ((gcd_step p r).trans hg2.out)
            go_wp2_with fail
            go_big_region
            all_goals
              go_wp2_with fail
              go_roundg (p % r)
              case measure => have := HQ2.out; omega
              case rel => exact ⟨r, p % r, rfl, by first | go_num | (rw [hm]) | simp [hm], rfl, by omega, by omega, HGS, by (repeat' (first | (with_reducible exact G.refl _) | (with_reducible assumption) | (with_reducible refine G.drewN ?_ _) | (with_reducible refine G.drew ?_) | (with_reducible refine G.alloc ?_ _) | (with_reducible refine G.setCell ?_ (by first | (with_reducible exact Nat.le_refl _) | (simp; done) | (simp; omega) | omega) _) | (with_reducible refine G.trans ?_ (by assumption))))⟩
  · have H1 := Lib.hid (h1.take 20)
    have HC := Lib.hid ((cb_of hwf).take 20)
    have HN := Lib.hid (show (l0.take 20).length = 20 by rw [List.length_take]; omega)
    have HK := Lib.hid (show 20 ≤ 20 from Nat.le_refl _)
    have m3 : (20 : Int) ≤ (c : Int) := by omega
    have m4 : 20 ≤ c := by omega
    generalize l0.take 20 = l at *
    clear h1 hwf hc
    go_enter Try.func5, Try.ntmps5
    go_wp2_with fail
    refine (to_any a l 20 c _ HN.out HK.out (H1.out.later (by (repeat' (first | (with_reducible exact G.refl _) | (with_reducible assumption) | (with_reducible refine G.drewN ?_ _) | (with_reducible refine G.drew ?_) | (with_reducible refine G.alloc ?_ _) | (with_reducible refine G.setCell ?_ (by first | (with_reducible exact Nat.le_refl _) | (simp; done) | (simp; omega) | omega) _) | (with_reducible refine G.trans ?_ (by assumption))))))).mono ?_
    rintro x w1 ⟨v, rfl, hR, hG1⟩
    have g1 : G w w1 := G.trans (by (repeat' (first | (with_reducible exact G.refl _) | (with_reducible refine G.drewN ?_ _) | (with_reducible refine G.drew ?_) | (with_reducible refine G.alloc ?_ _)))) hG1
    obtain ⟨a2, c2, rfl, hT2⟩ := hR.tus
    rw [HN.out]
    have H2 := Lib.hid hT2
    clear hR hT2
    go_wp2_with fail
    refine (Depth_any a l 20 c _ _ HN.out HK.out (H1.out.later (by (repeat' (first | (with_reducible exact G.refl _) | (with_reducible assumption) | (with_reducible refine G.drewN ?_ _) | (with_reducible refine G.drew ?_) | (with_reducible refine G.alloc ?_ _) | (with_reducible refine G.setCell ?_ (by first | (with_reducible exact Nat.le_refl _) | (simp; done) | (simp; omega) | omega) _) | (with_reducible refine G.trans ?_ (by assumption)))))) HC.out).mono ?_
    rintro x w2 ⟨rfl, hG2⟩
    have g2 : G w1 w2 := G.trans (by (repeat' (first | (with_reducible exact G.refl _) | (with_reducible refine G.drewN ?_ _) | (with_reducible refine G.drew ?_) | (with_reducible refine G.alloc ?_ _)))) hG2
    go_wp2_with fail
    refine (Ratio_any a l 20 c _ _ HN.out HK.out (H1.out.later (g1.trans (g2.trans (by (repeat' (first | (with_reducible exact G.refl _) | (with_reducible assumption) | (with_reducible refine G.drewN ?_ _) | (with_reducible refine G.drew ?_) | (with_reducible refine G.alloc ?_ _) | (with_reducible refine G.setCell ?_ (by first | (with_reducible exact Nat.le_refl _) | (simp; done) | (simp; omega) | omega) _) | (with_reducible refine G.trans ?_ (by assumption)))))))) HC.out).mono ?_
    rintro x w3 ⟨rfl, hG3⟩
    have g3 : G w1 w3 := g2.trans (G.trans (by (repeat' (first | (with_reducible exact G.refl _) | (with_reducible refine G.drewN ?_ _) | (with_reducible refine G.drew ?_) | (with_reducible refine G.alloc ?_ _)))) hG3)
    go_wp2_with fail
    refine (known_any _).mono ?_
    rintro x w4 ⟨rfl, hG4⟩
    have g4 : G w1 w4 := g3.trans (G.trans (by (repeat' (first | (with_reducible exact G.refl _) | (with_reducible refine G.drewN ?_ _) | (with_reducible refine G.drew ?_) | (with_reducible refine G.alloc ?_ _)))) hG4)
    go_wp2_with fail
    refine (rCheck_any a2 l 20 c2 128 _ HN.out (H2.out.later (g4.trans (by (repeat' (first | (with_reducible exact G.refl _) | (with_reducible assumption) | (with_reducible refine G.drewN ?_ _) | (with_reducible refine G.drew ?_) | (with_reducible refine G.alloc ?_ _) | (with_reducible refine G.setCell ?_ (by first | (with_reducible exact Nat.le_refl _) | (simp; done) | (simp; omega) | omega) _) | (with_reducible refine G.trans ?_ (by assumption)))))))).mono ?_
    rintro x w5 ⟨rfl, hG5⟩
    have g5 : G w1 w5 := g4.trans (G.trans (by (repeat' (first | (with_reducible exact G.refl _) | (with_reducible refine G.drewN ?_ _) | (with_reducible refine G.drew ?_) | (with_reducible refine G.alloc ?_ _)))) hG5)
    by_cases hk : ckT 128 l = 0
    rotate_left
    · have HD := Lib.hid (show depT l e = 0 from if_neg hk)
      have HX := Lib.hid (show raT l e = (0, 0) from if_neg hk)
      obtain ⟨E, hE⟩ : ∃ z : Int, Hid (z = ckT 128 l) := ⟨_, rfl⟩
      rw [← hE.out] at hk
      rw [← hE.out, HD.out, HX.out]
      have e3 : (E == 0) = false := beq_false_of_ne hk
      have e4 : (E != 0) = true := by simp [bne, e3]
      clear hk
      go_wp2_with fail
      go_ret
      exact ⟨by first | rfl | simp, g1.trans (g5.trans (by (repeat' (first | (with_reducible exact G.refl _) | (with_reducible assumption) | (with_reducible refine G.drewN ?_ _) | (with_reducible refine G.drew ?_) | (with_reducible refine G.alloc ?_ _) | (with_reducible refine G.setCell ?_ (by first | (with_reducible exact Nat.le_refl _) | (simp; done) | (simp; omega) | omega) _) | (with_reducible refine G.trans ?_ (by assumption))))))⟩
    have HCK := Lib.hid hk
    have HF := Lib.hid (ckT_fit hk)
    have HD := Lib.hid (show depT l e = cntT l e from if_pos hk)
    obtain ⟨N, D, X, Y, hN, hD, hn0, hn1, hd0, hd1, hX, hY, hX0, hY0, hXN, hYD, hcop, hcr⟩ := ra_facts hk e
    have HP := Lib.hid (show prT l e = ((N : Int), (D : Int)) from Prod.ext hN hD)
    have HXY := Lib.hid (show raT l e = ((X : Int), (Y : Int)) from Prod.ext hX hY)
    rw [HCK.out, HXY.out, HD.out]
    obtain ⟨dd, hdd⟩ : ∃ z : Nat, Hid (cntT l e = z) := ⟨_, rfl⟩
    rw [hdd.out]
    have HC1 := Lib.hid hcop
    have HB := Lib.hid (And.intro hn1 hd1)
    have f1 : (1 : Int) ≤ (X : Int) := by omega
    have f2 : (1 : Int) ≤ (Y : Int) := by omega
    have f3 : ¬ ((X : Int) < 1) := by omega
    have f4 : ¬ ((Y : Int) < 1) := by omega
    have f5 : (X : Int) * (D : Int) = (Y : Int) * (N : Int) := by exact_mod_cast hcr
    have p1 : (Y : Int) * (N : Int) ≤ 32768 * 32768 := Int.mul_le_mul (by omega) (by omega) (by omega) (by omega)
    have p2 : 0 ≤ (Y : Int) * (N : Int) := Int.mul_nonneg (by omega) (by omega)
    have q6 := IntWalk.i64_in ((Y : Int) * (N : Int)) (by omega)
    have HXB := Lib.hid (show X ≤ 32768 ∧ Y ≤ 32768 by omega)
    clear hk hN hD hX hY hcop hcr p1 p2 hn0 hn1 hd0 hd1 hX0 hY0 hXN hYD
    go_wp2_with fail
    go_loopg [9, 10, 11, 12] l.length (fun q x1 x2 x3 x4 wr => ∃ (i : Nat) (d : Nat) (A B : Int), x1 = .int .i64 d ∧ x2 = .int .i64 A ∧ x3 = .int .i64 B ∧ x4 = .int .i64 i ∧ q = l.length - i ∧ i ≤ l.length ∧ d ≤ i ∧ Hid (cntT (l.take i) e = d) ∧ Hid (prT (l.take i) e = (A, B)) ∧ G w1 wr)
    case atStart => exact ⟨0, 0, 1, 1, rfl, rfl, rfl, rfl, by omega, by omega, by omega, Lib.hid rfl, Lib.hid rfl, g5.trans (by (repeat' (first | (with_reducible exact G.refl _) | (with_reducible assumption) | (with_reducible refine G.drewN ?_ _) | (with_reducible refine G.drew ?_) | (with_reducible refine G.alloc ?_ _) | (with_reducible refine G.setCell ?_ (by first | (with_reducible exact Nat.le_refl _) | (simp; done) | (simp; omega) | omega) _) | (with_reducible refine G.trans ?_ (by assumption)))))⟩
    case round =>
      obtain ⟨i, d, A, B, rfl, rfl, rfl, rfl, hq, hi, hdi, hCt, hPr, gr⟩ := hrel
      have HQ := Lib.hid hq
      clear hq
      by_cases hin : i < l.length
      · obtain ⟨⟨f, cc, aa, nn⟩, hp⟩ : ∃ z, l[i]? = some z := ⟨l[i], List.getElem?_eq_getElem hin⟩
        rcases H2.out with hz | ⟨b0, of, rfl, fc⟩
        · rw [hz] at hin; exact absurd hin (by simp)
        have FC := Lib.hid fc
        obtain ⟨x0, x1, x2, x3⟩ := (fc i _ hp).later gr
        dsimp only at x0 x1 x2 x3
        have hone := HF.out.one _ (List.mem_of_getElem? hp)
        have HO := Lib.hid (show (-9223372036854775808 ≤ f + cc ∧ f + cc ≤ 9223372036854775807) by have := hone.1; have := hone.2.1; have := hone.2.2.1; dsimp only at *; omega)
        have hpr := HF.out.pr e i
        rw [hPr.out] at hpr
        obtain ⟨⟨n0, n1⟩, d0, d1⟩ := hpr
        obtain ⟨⟨a0, a1⟩, m0, m1⟩ := hone.2.2.2
        dsimp only at n0 n1 d0 d1 a0 a1 m0 m1
        have HNX := Lib.hid (show prT (l.take (i + 1)) e = if InT ⟨f, cc, aa, nn⟩ e then (A * nn, B * aa) else (A, B) by rw [pr_next e hp, hPr.out]; rfl)
        have HCX := Lib.hid (cnt_next e hp)
        have HP2 := Lib.hid hp
        have b1 : (0 : Int) ≤ (i : Int) := by omega
        have b2 : (i : Int) < (20 : Int) := by have := HN.out; omega
        have HL2 := Lib.hid (show (i : Int) < (l.length : Int) by omega)
        have q1 := IntWalk.i64_in ((i : Int) + 1) (by have := HK.out; have := HN.out; omega)
        have q2 := IntWalk.i64_in ((d : Int) + 1) (by have := HK.out; have := HN.out; omega)
        have p1 : A * nn ≤ 32768 * 32 := Int.mul_le_mul n1 m1 (by omega) (by omega)
        have p2 : 0 ≤ A * nn := Int.mul_nonneg (by omega) (by omega)
        have p3 : B * aa ≤ 32768 * 32 := Int.mul_le_mul d1 a1 (by omega) (by omega)
        have p4 : 0 ≤ B * aa := Int.mul_nonneg (by omega) (by omega)
        have q3 := IntWalk.i64_in (A * nn) (by omega)
        have q4 := IntWalk.i64_in (B * aa) (by omega)
        clear fc hone hp n0 n1 d0 d1 a0 a1 m0 m1 p1 p2 p3 p4
        by_cases hit : InT ⟨f, cc, aa, nn⟩ e
        · have H20 := Lib.hid (show prT (l.take (i + 1)) e = (A * nn, B * aa) by rw [HNX.out, if_pos hit])
          have HCN := Lib.hid (show cntT (l.take (i + 1)) e = d + 1 by rw [HCX.out, if_pos hit, hCt.out])
          have HIT := Lib.hid hit
          clear hit
          go_wp2_with fail
          refine (rIn_any _ _ _ _ _ _ HO.out.1 HO.out.2).mono ?_
          rintro x w6 ⟨rfl, hG6⟩
          rw [decide_eq_true HIT.out]
          have gN : G wr w6 := G.trans (by (repeat' (first | (with_reducible exact G.refl _) | (with_reducible refine G.drewN ?_ _) | (with_reducible refine G.drew ?_) | (with_reducible refine G.alloc ?_ _)))) hG6
          have y2 := gN.at x2
          have y3 := gN.at x3
          clear x0 x1 x2 x3
          go_wp2_with fail
          go_big_region
          all_goals
            go_wp2_with fail
            go_roundg (l.length - (i + 1))
            case measure => have := HQ.out; have := HL2.out; omega
            case rel => exact ⟨i + 1, d + 1, A * nn, B * aa, by go_num, by go_num, by go_num, by go_num, rfl, by have := HL2.out; omega, by omega, HCN, H20, by (repeat' (first | (with_reducible exact G.refl _) | (with_reducible assumption) | (with_reducible refine G.drewN ?_ _) | (with_reducible refine G.drew ?_) | (with_reducible refine G.alloc ?_ _) | (with_reducible refine G.setCell ?_ (by first | (with_reducible exact Nat.le_refl _) | (simp; done) | (simp; omega) | omega) _) | (with_reducible refine G.trans ?_ (by assumption))))⟩
        · have H20 := Lib.hid (show prT (l.take (i + 1)) e = (A, B) by rw [HNX.out, if_neg hit])
          have HCN := Lib.hid (show cntT (l.take (i + 1)) e = d by rw [HCX.out, if_neg hit, hCt.out])
          have HIT := Lib.hid hit
          clear hit
          go_wp2_with fail
          refine (rIn_any _ _ _ _ _ _ HO.out.1 HO.out.2).mono ?_
          rintro x w6 ⟨rfl, hG6⟩
          rw [decide_eq_false HIT.out]
          have gN : G wr w6 := G.trans (by (repeat' (first | (with_reducible exact G.refl _) | (with_reducible refine G.drewN ?_ _) | (with_reducible refine G.drew ?_) | (with_reducible refine G.alloc ?_ _)))) hG6
          clear x0 x1 x2 x3
          go_wp2_with fail
          go_roundg (l.length - (i + 1))
          case measure => have := HQ.out; have := HL2.out; omega
          case rel => exact ⟨i + 1, d, A, B, rfl, rfl, rfl, by go_num, rfl, by have := HL2.out; omega, by omega, HCN, H20, by (repeat' (first | (with_reducible exact G.refl _) | (with_reducible assumption) | (with_reducible refine G.drewN ?_ _) | (with_reducible refine G.drew ?_) | (with_reducible refine G.alloc ?_ _) | (with_reducible refine G.setCell ?_ (by first | (with_reducible exact Nat.le_refl _) | (simp; done) | (simp; omega) | omega) _) | (with_reducible refine G.trans ?_ (by assumption))))⟩
      · have hii : i = l.length := by omega
        subst hii
        rw [List.take_length] at hCt hPr
        have e1 : d = dd := hCt.out.symm.trans hdd.out
        have e2 : A = (N : Int) := by have := HP.out.symm.trans hPr.out; exact (Prod.mk.inj this).1.symm
        have e3 : B = (D : Int) := by have := HP.out.symm.trans hPr.out; exact (Prod.mk.inj this).2.symm
        subst e1 e2 e3
        have g6 := g1.trans gr
        rw [HN.out]
        go_wp2_with fail
        go_loopg [13, 14] Y (fun q x1 x2 wr => ∃ p r : Nat, x1 = .int .i64 p ∧ x2 = .int .i64 r ∧ q = r ∧ p ≤ 32768 ∧ r ≤ 32768 ∧ Hid (Nat.gcd p r = 1) ∧ G w wr)
        case atStart => exact ⟨X, Y, rfl, rfl, rfl, HXB.out.1, HXB.out.2, HC1, g6.trans (by (repeat' (first | (with_reducible exact G.refl _) | (with_reducible assumption) | (with_reducible refine G.drewN ?_ _) | (with_reducible refine G.drew ?_) | (with_reducible refine G.alloc ?_ _) | (with_reducible refine G.setCell ?_ (by first | (with_reducible exact Nat.le_refl _) | (simp; done) | (simp; omega) | omega) _) | (with_reducible refine G.trans ?_ (by assumption)))))⟩
        case round =>
          obtain ⟨p, r, rfl, rfl, hq2, hp2, hr2, hg2, gr2⟩ := hrel
          have HQ2 := Lib.hid hq2
          clear hq2
          by_cases hz : r = 0
          · subst hz
            obtain rfl : p = 1 := by have := hg2.out; simpa using this
            go_wp2_with fail
            go_ret
            exact ⟨by first | rfl | simp, gr2⟩
          · have hlt : p % r < r := Nat.mod_lt _ (by omega)
            have hm : (p : Int).tmod (r : Int) = ((p % r : Nat) : Int) := by rw [Int.tmod_eq_emod_of_nonneg (by omega)]; rfl
            have hq1 : ((r : Int) == 0) = false := beq_false_of_ne (by omega)
            have hq3 : (r == 0) = false := beq_false_of_ne hz
            have HGS := Lib.hid ((gcd_step p r).trans hg2.out)
            go_wp2_with fail
            go_big_region
            all_goals
              go_wp2_with fail
              go_roundg (p % r)
              case measure => have := HQ2.out; omega
              case rel => exact ⟨r, p % r, rfl, by first | go_num | (rw [hm]) | simp [hm], rfl, by omega, by omega, HGS, by (repeat' (first | (with_reducible exact G.refl _) | (with_reducible assumption) | (with_reducible refine G.drewN ?_ _) | (with_reducible refine G.drew ?_) | (with_reducible refine G.alloc ?_ _) | (with_reducible refine G.setCell ?_ (by first | (with_reducible exact Nat.le_refl _) | (simp; done) | (simp; omega) | omega) _) | (with_reducible refine G.trans ?_ (by assumption))))⟩

/-! ### the row and the card -/
open Go.ChangeShapes Go.WideShapes Go.ChangeAt Go.RowKit
set_option maxRecDepth 100000 in
theorem tupletRatios_lifted (os : Os) (started : os.Started) (H : Type) (enc : TypeId × Value → H) :
    ReturnsInHanded {} Try.checked os 5 .any (Rows.tupletRatiosSpec.pre6 enc Try.prog Try.f5 Rows.tupletRatiosRow.domain false)
      (Rows.tupletRatiosSpec.post enc Try.prog Try.f5 false true false false) := by
  refine returnsInHanded_of_change (C := Try.checked) own started (by kernel_rfl) Try.func5
    (ChangeSpec.witness6 (enc := enc) (C := Try.checked) false ⟨#[], #[.slice none 0 0, .int .i64 0], []⟩ 8 (by kernel_rfl) (by kernel_rfl) (by kernel_rfl) (by kernel_rfl)) ?_
  intro W base args ds gs before hval0 hW _ _
  have hval : ∀ (j : Nat) t v, Try.f5.params[j]? = some t → args[j]? = some v → Value.okWide Try.prog W .any base t v := hval0
  have hW' := hW
  obtain ⟨p, q, hA0, hV, rfl, hfz, hnd⟩ := hW
  have hA : DataW.TrodAll enc Try.prog W 0 (fun _ => true) true Try.f5.params.toList args.toList ds p := hA0
  rw [Try.params5] at hA hval
  obtain ⟨v0, vs0, d0, ds0, p0, q0, hargs, rfl, rfl, h0, r0⟩ := trodAll_cons hA
  obtain ⟨v1, vs1, d1, ds1, p1, q1, rfl, rfl, rfl, h1, r1⟩ := trodAll_cons r0
  obtain ⟨rfl, rfl, rfl⟩ := trodAll_nil r1
  obtain rfl : args = #[v0, v1] := by cases args; simp_all
  obtain ⟨rfl, rfl⟩ := trodVars_none hV
  have keep0 := h0
  obtain ⟨a0, cap0, l0, rfl, lc0, mc0, la0, wf0, lz0⟩ := open_tusArg (hval 0 22 v0 rfl rfl) h0
  obtain ⟨a1, rfl, rfl, rfl, w1⟩ := open_int Try.underlying3 (hval 1 3 v1 rfl rfl) h1
  obtain ⟨bl1, bh1⟩ := bounds_i64 w1
  clear hA0 hval0
  simp only [List.append_nil] at hW'
  have hlt0 : ∀ x ∈ p0, x.block < W.heap.size := fun x hx => by have := hW'.lt x (by simp [hx]); simpa using this
  refine (ratios_walk a0 l0 cap0 a1 W lc0 mc0 la0 lz0 wf0 bl1 bh1  ).mono fun e W' ⟨he, hg⟩ => ?_
  subst he
  exact ⟨_, rfl, _, _, _, [], (p0 ++ ([] ++ [])), [], hW', (trodAll_cons_mk (shut_bool Try.underlying4 _) trodAll_mk0), (trodAll_cons_mk (Below.trod (by kernel_rfl) (by kernel_rfl) (of_decide_eq_true (by kernel_rfl)) keep0 hg hlt0) (trodAll_cons_mk (shut_int Try.underlying3 w1) trodAll_mk0)), rfl, Below.frame hg _, fun h => by cases h⟩

theorem tupletRatios_holds : Rows.TupletRatiosSaid :=
  OpenClaim.holds_of_wide 5 Try.f5 rfl rfl rfl rfl rfl rfl rfl ⟨rfl, rfl, rfl, rfl, rfl⟩ rfl rfl rfl rfl rfl (by kernel_rfl) Try.func5 (by kernel_rfl)
    (of_decide_eq_true (by kernel_rfl)) (by unfold Func.isWrapper; first | (rw [if_pos (by decide +kernel)]; kernel_rfl) | (rw [if_neg (by decide +kernel)]; exact ⟨rfl, rfl⟩))
    (fun os started H enc _ => tupletRatios_lifted os started H enc)

#print axioms tupletRatios_holds
end Go.Proofs.Ytabaiklagobimaa
