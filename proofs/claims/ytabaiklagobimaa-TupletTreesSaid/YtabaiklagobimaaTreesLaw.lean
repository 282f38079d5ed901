/- TupletTrees: for any up to 20 tuplets and any number of events, Tree returns the tuplets that contain others as in the definition; the arguments read as before; no further condition. -/
import Derived.Test.YtabaiklagobimaaRows
import Derived.Test.YtabaiklagobimaaT11
import Derived.Test.YtabaiklagobimaaT8
import Derived.Test.YtabaiklagobimaaLaid
namespace Go.Proofs.Ytabaiklagobimaa
open Go.RowKit Go.ChangeShapes Go.WideShapes
attribute [local go_sem] World.cell?_alloc_some

set_option maxRecDepth 100000 in
set_option maxHeartbeats 12800000 in
theorem trees_walk (a : Option Addr) (l0 : List Tu) (c : Nat) (ev : Int) (w : World) (hc : l0.length ≤ c) (_ : c ≤ maxLen) (h1 : TusAt w a l0) (_ : a = none → c = 0) (hwf : ∀ n ∈ l0, (Lit.int .i64 n.c).wf = true) (_ : -9223372036854775808 ≤ ev) (_ : ev ≤ 9223372036854775807) :
    Calls Try.prog 9 #[.slice a l0.length c, .int .i64 ev] w fun x w' => x = .returned (.bool true) ∧ G w w' := by
  by_cases k20 : (l0.length : Int) ≤ 20
  · have H1 := Lib.hid h1
    have HC := Lib.hid (cb_of hwf)
    have HN := Lib.hid (show l0.length = l0.length from rfl)
    have HK := Lib.hid (show l0.length ≤ 20 by omega)
    have m3 : (l0.length : Int) ≤ (c : Int) := by omega
    generalize l0 = l at *
    obtain ⟨n, hn⟩ : ∃ z : Nat, Hid (l.length = z) := ⟨_, rfl⟩
    rw [hn.out] at HK k20 m3 ⊢
    clear HN h1 hwf hc
    have HN := hn
    clear hn
    go_enter Try.func9, Try.ntmps9
    go_wp2_with fail
    refine (to_any a l n c _ HN.out HK.out (H1.out.later (by (repeat' (first | (with_reducible exact G.refl _) | (with_reducible assumption) | (with_reducible refine G.drewN ?_ _) | (with_reducible refine G.drew ?_) | (with_reducible refine G.alloc ?_ _) | (with_reducible refine G.setCell ?_ (by first | (with_reducible exact Nat.le_refl _) | (simp; done) | (simp; omega) | omega) _) | (with_reducible refine G.trans ?_ (by assumption))))))).mono ?_
    rintro x w1 ⟨v, rfl, hR, hG1⟩
    have g1 : G w w1 := G.trans (by (repeat' (first | (with_reducible exact G.refl _) | (with_reducible refine G.drewN ?_ _) | (with_reducible refine G.drew ?_) | (with_reducible refine G.alloc ?_ _)))) hG1
    obtain ⟨a2, c2, rfl, hT2⟩ := hR.tus
    rw [HN.out]
    have H2 := Lib.hid hT2
    clear hR hT2
    go_wp2_with fail
    refine (Tree_any a l n c ev _ HN.out (H1.out.later (g1.trans (by (repeat' (first | (with_reducible exact G.refl _) | (with_reducible assumption) | (with_reducible refine G.drewN ?_ _) | (with_reducible refine G.drew ?_) | (with_reducible refine G.alloc ?_ _) | (with_reducible refine G.setCell ?_ (by first | (with_reducible exact Nat.le_refl _) | (simp; done) | (simp; omega) | omega) _) | (with_reducible refine G.trans ?_ (by assumption))))))) HC.out).mono ?_
    rintro x w2 ⟨v2, rfl, hTR, hG2⟩
    have g2 : G w1 w2 := G.trans (by (repeat' (first | (with_reducible exact G.refl _) | (with_reducible refine G.drewN ?_ _) | (with_reducible refine G.drew ?_) | (with_reducible refine G.alloc ?_ _)))) hG2
    have HTR := Lib.hid hTR
    clear hTR
    by_cases hk : ckT ev l = 0
    rotate_left
    · have hA := HTR.out
      unfold TreeR at hA
      rw [if_neg hk] at hA
      subst hA
      obtain ⟨E, hE⟩ : ∃ z : Int, Hid (ckT ev l = z) := ⟨_, rfl⟩
      rw [hE.out] at hk ⊢
      have e3 : (E == 0) = false := beq_false_of_ne hk
      have e4 : (E != 0) = true := by simp [bne, e3]
      clear hk HTR
      go_wp2_with fail
      refine (rCheck_any a2 l n c2 ev _ HN.out (H2.out.later (g2.trans (by (repeat' (first | (with_reducible exact G.refl _) | (with_reducible assumption) | (with_reducible refine G.drewN ?_ _) | (with_reducible refine G.drew ?_) | (with_reducible refine G.alloc ?_ _) | (with_reducible refine G.setCell ?_ (by first | (with_reducible exact Nat.le_refl _) | (simp; done) | (simp; omega) | omega) _) | (with_reducible refine G.trans ?_ (by assumption)))))))).mono ?_
      rintro x w3 ⟨rfl, hG3⟩
      have g3 : G w1 w3 := g2.trans (G.trans (by (repeat' (first | (with_reducible exact G.refl _) | (with_reducible refine G.drewN ?_ _) | (with_reducible refine G.drew ?_) | (with_reducible refine G.alloc ?_ _)))) hG3)
      rw [hE.out]
      go_wp2_with fail
      refine (known_any _).mono ?_
      rintro x w4 ⟨rfl, hG4⟩
      have g4 : G w1 w4 := g3.trans (G.trans (by (repeat' (first | (with_reducible exact G.refl _) | (with_reducible refine G.drewN ?_ _) | (with_reducible refine G.drew ?_) | (with_reducible refine G.alloc ?_ _)))) hG4)
      go_wp2_with fail
      refine (known_any _).mono ?_
      rintro x w5 ⟨rfl, hG5⟩
      have g5 : G w1 w5 := g4.trans (G.trans (by (repeat' (first | (with_reducible exact G.refl _) | (with_reducible refine G.drewN ?_ _) | (with_reducible refine G.drew ?_) | (with_reducible refine G.alloc ?_ _)))) hG5)
      go_wp2_with fail
      go_ret
      exact ⟨by first | rfl | simp, g1.trans (g5.trans (by (repeat' (first | (with_reducible exact G.refl _) | (with_reducible assumption) | (with_reducible refine G.drewN ?_ _) | (with_reducible refine G.drew ?_) | (with_reducible refine G.alloc ?_ _) | (with_reducible refine G.setCell ?_ (by first | (with_reducible exact Nat.le_refl _) | (simp; done) | (simp; omega) | omega) _) | (with_reducible refine G.trans ?_ (by assumption))))))⟩
    have hA := HTR.out
    unfold TreeR at hA
    rw [if_pos hk] at hA
    obtain ⟨g, rfl, hcells⟩ := hA
    have HCE := Lib.hid hcells
    have HKO := Lib.hid (ckT_ok hk)
    have HTD := Lib.hid (fun i t (h : l[i]? = some t) => tr_def hk h)
    have HCK := Lib.hid hk
    rw [hk, HN.out]
    clear hk hcells HTR
    go_wp2_with fail
    refine (rCheck_any a2 l n c2 ev _ HN.out (H2.out.later (g2.trans (by (repeat' (first | (with_reducible exact G.refl _) | (with_reducible assumption) | (with_reducible refine G.drewN ?_ _) | (with_reducible refine G.drew ?_) | (with_reducible refine G.alloc ?_ _) | (with_reducible refine G.setCell ?_ (by first | (with_reducible exact Nat.le_refl _) | (simp; done) | (simp; omega) | omega) _) | (with_reducible refine G.trans ?_ (by assumption)))))))).mono ?_
    rintro x w3 ⟨rfl, hG3⟩
    have g23 : G w2 w3 := G.trans (by (repeat' (first | (with_reducible exact G.refl _) | (with_reducible refine G.drewN ?_ _) | (with_reducible refine G.drew ?_) | (with_reducible refine G.alloc ?_ _)))) hG3
    rw [HCK.out]
    go_wp2_with fail
    refine (known_any _).mono ?_
    rintro x w4 ⟨rfl, hG4⟩
    have g24 : G w2 w4 := g23.trans (G.trans (by (repeat' (first | (with_reducible exact G.refl _) | (with_reducible refine G.drewN ?_ _) | (with_reducible refine G.drew ?_) | (with_reducible refine G.alloc ?_ _)))) hG4)
    go_wp2_with fail
    go_loopg [9] n (fun q x wr => ∃ i : Nat, x = .int .i64 i ∧ q = n - i ∧ i ≤ n ∧ G w2 wr)
    case atStart => exact ⟨0, rfl, by omega, by omega, g24.trans (by (repeat' (first | (with_reducible exact G.refl _) | (with_reducible assumption) | (with_reducible refine G.drewN ?_ _) | (with_reducible refine G.drew ?_) | (with_reducible refine G.alloc ?_ _) | (with_reducible refine G.setCell ?_ (by first | (with_reducible exact Nat.le_refl _) | (simp; done) | (simp; omega) | omega) _) | (with_reducible refine G.trans ?_ (by assumption)))))⟩
    case round =>
      obtain ⟨i, rfl, hq, hi, gr⟩ := hrel
      have HQ := Lib.hid hq
      clear hq
      by_cases hin : i < n
      · obtain ⟨⟨f, cc, aa, nn⟩, hp⟩ : ∃ z, l[i]? = some z := ⟨l[i]'(by have := HN.out; omega), List.getElem?_eq_getElem (by have := HN.out; omega)⟩
        rcases H2.out with hz | ⟨b0, of, rfl, fc⟩
        · rw [hz] at hp; simp at hp
        have FC := Lib.hid fc
        have HBD := Lib.hid (show ∀ (k : Nat) (t : Tu), l[k]? = some t → -9223372036854775808 ≤ t.f + t.c ∧ t.f + t.c ≤ 9223372036854775807 from fun k t h2 => by
          have := HKO.out.2.2.2.1 t (List.mem_of_getElem? h2)
          have := HKO.out.1
          unfold InR at *
          omega)
        have HBI := Lib.hid (HBD.out i _ hp)
        have HWN := Lib.hid (HTD.out i _ hp)
        have HP := Lib.hid hp
        have t0 := HCE.out i (by have := HN.out; omega)
        have HT0 := Lib.hid t0
        have b1 : (0 : Int) ≤ (i : Int) := by omega
        have b2 : (i : Int) < (n : Int) := by omega
        have b3 : ¬ ((n : Int) ≤ (i : Int)) := by omega
        have HIN := Lib.hid hin
        have q1 := IntWalk.i64_in ((i : Int) + 1) (by have := HK.out; omega)
        clear fc hp t0
        go_wp2_with fail
        go_loopg [10, 11] i (fun q x y wr2 => ∃ k : Nat, x = .int .i64 (wn l ⟨f, cc, aa, nn⟩ k) ∧ y = .int .i64 k ∧ q = i - k ∧ k ≤ i ∧ G w2 wr2)
        case atStart => exact ⟨0, rfl, rfl, by omega, by omega, gr.trans (by (repeat' (first | (with_reducible exact G.refl _) | (with_reducible assumption) | (with_reducible refine G.drewN ?_ _) | (with_reducible refine G.drew ?_) | (with_reducible refine G.alloc ?_ _) | (with_reducible refine G.setCell ?_ (by first | (with_reducible exact Nat.le_refl _) | (simp; done) | (simp; omega) | omega) _) | (with_reducible refine G.trans ?_ (by assumption)))))⟩
        case round =>
          obtain ⟨k, rfl, rfl, hq2, hk, gr2⟩ := hrel
          have HQ2 := Lib.hid hq2
          clear hq2
          by_cases hki : k < i
          · obtain ⟨⟨f', c', a', n'⟩, hp'⟩ : ∃ z, l[k]? = some z := ⟨l[k]'(by have := HN.out; omega), List.getElem?_eq_getElem (by have := HN.out; omega)⟩
            obtain ⟨x0, x1, x2, x3⟩ := (FC.out i _ HP.out).later (g2.trans gr2)
            obtain ⟨y0, y1, y2, y3⟩ := (FC.out k _ hp').later (g2.trans gr2)
            dsimp only at x0 x1 x2 x3 y0 y1 y2 y3
            have HBK := Lib.hid (HBD.out k _ hp')
            have HNX := Lib.hid (show wn l ⟨f, cc, aa, nn⟩ (k + 1) = if Wi ⟨f, cc, aa, nn⟩ ⟨f', c', a', n'⟩ then (k : Int) else wn l ⟨f, cc, aa, nn⟩ k by rw [wn, at_get hp'])
            have k1 : (0 : Int) ≤ (k : Int) := by omega
            have k2 : (k : Int) < (n : Int) := by omega
            have k3 : (k : Int) < (i : Int) := by omega
            have q2 := IntWalk.i64_in ((k : Int) + 1) (by have := HK.out; omega)
            clear hp'
            by_cases hw : Wi ⟨f, cc, aa, nn⟩ ⟨f', c', a', n'⟩
            · have HW := Lib.hid hw
              have HN2 := Lib.hid (HNX.out.trans (if_pos hw))
              clear hw
              go_wp2_with fail
              go_region_held3 (fun w' => w'.cell? ⟨b0, of + i * 4, none⟩ = some (.int .i64 f) ∧ w'.cell? ⟨b0, of + i * 4 + 1, none⟩ = some (.int .i64 cc) ∧ w'.cell? ⟨b0, of + i * 4 + 2, none⟩ = some (.int .i64 aa) ∧ w'.cell? ⟨b0, of + i * 4 + 3, none⟩ = some (.int .i64 nn) ∧ w'.cell? ⟨b0, of + k * 4, none⟩ = some (.int .i64 f') ∧ w'.cell? ⟨b0, of + k * 4 + 1, none⟩ = some (.int .i64 c') ∧ w'.cell? ⟨b0, of + k * 4 + 2, none⟩ = some (.int .i64 a') ∧ w'.cell? ⟨b0, of + k * 4 + 3, none⟩ = some (.int .i64 n'))
                (first | (with_reducible assumption) | ((try dsimp only); (repeat' (with_reducible apply And.intro)) <;> go_simp))
                (first | (go_at_call 31; refine (rWithin_any _ _ _ _ _ _ _ _ _ HBI.out HBK.out).mono ?_; rintro x w6 ⟨rfl, hG6⟩; rw [decide_eq_true HW.out]; have gq : G wr w6 := G.trans (by (repeat' (first | (with_reducible exact G.refl _) | (with_reducible refine G.drewN ?_ _) | (with_reducible refine G.drew ?_) | (with_reducible refine G.alloc ?_ _)))) hG6; have P0 := gq.at x0; have P1 := gq.at x1; have P2 := gq.at x2; have P3 := gq.at x3; have Q0 := gq.at y0; have Q1 := gq.at y1; have Q2 := gq.at y2; have Q3 := gq.at y3))
              all_goals
                go_wp2_with fail
                go_roundg (i - (k + 1))
                case measure => have := HQ2.out; omega
                case rel => exact ⟨k + 1, by rw [HN2.out]; first | done | rfl, by go_num, rfl, by omega, gr2.trans gq⟩
            · have HW := Lib.hid hw
              have HN2 := Lib.hid (HNX.out.trans (if_neg hw))
              clear hw
              go_wp2_with fail
              go_region_held3 (fun w' => w'.cell? ⟨b0, of + i * 4, none⟩ = some (.int .i64 f) ∧ w'.cell? ⟨b0, of + i * 4 + 1, none⟩ = some (.int .i64 cc) ∧ w'.cell? ⟨b0, of + i * 4 + 2, none⟩ = some (.int .i64 aa) ∧ w'.cell? ⟨b0, of + i * 4 + 3, none⟩ = some (.int .i64 nn) ∧ w'.cell? ⟨b0, of + k * 4, none⟩ = some (.int .i64 f') ∧ w'.cell? ⟨b0, of + k * 4 + 1, none⟩ = some (.int .i64 c') ∧ w'.cell? ⟨b0, of + k * 4 + 2, none⟩ = some (.int .i64 a') ∧ w'.cell? ⟨b0, of + k * 4 + 3, none⟩ = some (.int .i64 n'))
                (first | (with_reducible assumption) | ((try dsimp only); (repeat' (with_reducible apply And.intro)) <;> go_simp))
                (first | (go_at_call 31; refine (rWithin_any _ _ _ _ _ _ _ _ _ HBI.out HBK.out).mono ?_; rintro x w6 ⟨rfl, hG6⟩; rw [decide_eq_false HW.out]; have gq : G wr w6 := G.trans (by (repeat' (first | (with_reducible exact G.refl _) | (with_reducible refine G.drewN ?_ _) | (with_reducible refine G.drew ?_) | (with_reducible refine G.alloc ?_ _)))) hG6; have P0 := gq.at x0; have P1 := gq.at x1; have P2 := gq.at x2; have P3 := gq.at x3; have Q0 := gq.at y0; have Q1 := gq.at y1; have Q2 := gq.at y2; have Q3 := gq.at y3))
              all_goals
                go_wp2_with fail
                go_roundg (i - (k + 1))
                case measure => have := HQ2.out; omega
                case rel => exact ⟨k + 1, by rw [HN2.out]; first | done | rfl, by go_num, rfl, by omega, gr2.trans gq⟩
          · have hkk : k = i := by omega
            have hwk : wn l ⟨f, cc, aa, nn⟩ k = tr l i := by rw [hkk]; exact HWN.out
            rw [hwk]
            have z0 := gr2.at HT0.out
            obtain ⟨T, hT⟩ : ∃ z : Int, Hid (tr l i = z) := ⟨_, rfl⟩
            rw [hT.out] at z0 ⊢
            have k4 : ¬ (k : Int) < (i : Int) := by omega
            clear hwk hkk
            go_wp2_with fail
            go_roundg (n - (i + 1))
            case measure => have := HQ.out; have := HIN.out; omega
            case rel => exact ⟨i + 1, by go_num, rfl, by have := HIN.out; omega, by (repeat' (first | (with_reducible exact G.refl _) | (with_reducible assumption) | (with_reducible refine G.drewN ?_ _) | (with_reducible refine G.drew ?_) | (with_reducible refine G.alloc ?_ _) | (with_reducible refine G.setCell ?_ (by first | (with_reducible exact Nat.le_refl _) | (simp; done) | (simp; omega) | omega) _) | (with_reducible refine G.trans ?_ (by assumption))))⟩
      · have b2 : ¬ (i : Int) < (n : Int) := by omega
        go_wp2_with fail
        go_ret
        exact ⟨by first | rfl | simp, g1.trans (g2.trans (gr.trans (by (repeat' (first | (with_reducible exact G.refl _) | (with_reducible assumption) | (with_reducible refine G.drewN ?_ _) | (with_reducible refine G.drew ?_) | (with_reducible refine G.alloc ?_ _) | (with_reducible refine G.setCell ?_ (by first | (with_reducible exact Nat.le_refl _) | (simp; done) | (simp; omega) | omega) _) | (with_reducible refine G.trans ?_ (by assumption)))))))⟩
  · have H1 := Lib.hid (h1.take 20)
    have HC := Lib.hid ((cb_of hwf).take 20)
    have HN := Lib.hid (show (l0.take 20).length = 20 by rw [List.length_take]; omega)
    have HK := Lib.hid (show 20 ≤ 20 from Nat.le_refl _)
    have m3 : (20 : Int) ≤ (c : Int) := by omega
    have m4 : 20 ≤ c := by omega
    generalize l0.take 20 = l at *
    clear h1 hwf hc
    go_enter Try.func9, Try.ntmps9
    go_wp2_with fail
    refine (to_any a l 20 c _ HN.out HK.out (H1.out.later (by (repeat' (first | (with_reducible exact G.refl _) | (with_reducible assumption) | (with_reducible refine G.drewN ?_ _) | (with_reducible refine G.drew ?_) | (with_reducible refine G.alloc ?_ _) | (with_reducible refine G.setCell ?_ (by first | (with_reducible exact Nat.le_refl _) | (simp; done) | (simp; omega) | omega) _) | (with_reducible refine G.trans ?_ (by assumption))))))).mono ?_
    rintro x w1 ⟨v, rfl, hR, hG1⟩
    have g1 : G w w1 := G.trans (by (repeat' (first | (with_reducible exact G.refl _) | (with_reducible refine G.drewN ?_ _) | (with_reducible refine G.drew ?_) | (with_reducible refine G.alloc ?_ _)))) hG1
    obtain ⟨a2, c2, rfl, hT2⟩ := hR.tus
    rw [HN.out]
    have H2 := Lib.hid hT2
    clear hR hT2
    go_wp2_with fail
    refine (Tree_any a l 20 c ev _ HN.out (H1.out.later (g1.trans (by (repeat' (first | (with_reducible exact G.refl _) | (with_reducible assumption) | (with_reducible refine G.drewN ?_ _) | (with_reducible refine G.drew ?_) | (with_reducible refine G.alloc ?_ _) | (with_reducible refine G.setCell ?_ (by first | (with_reducible exact Nat.le_refl _) | (simp; done) | (simp; omega) | omega) _) | (with_reducible refine G.trans ?_ (by assumption))))))) HC.out).mono ?_
    rintro x w2 ⟨v2, rfl, hTR, hG2⟩
    have g2 : G w1 w2 := G.trans (by (repeat' (first | (with_reducible exact G.refl _) | (with_reducible refine G.drewN ?_ _) | (with_reducible refine G.drew ?_) | (with_reducible refine G.alloc ?_ _)))) hG2
    have HTR := Lib.hid hTR
    clear hTR
    by_cases hk : ckT ev l = 0
    rotate_left
    · have hA := HTR.out
      unfold TreeR at hA
      rw [if_neg hk] at hA
      subst hA
      obtain ⟨E, hE⟩ : ∃ z : Int, Hid (ckT ev l = z) := ⟨_, rfl⟩
      rw [hE.out] at hk ⊢
      have e3 : (E == 0) = false := beq_false_of_ne hk
      have e4 : (E != 0) = true := by simp [bne, e3]
      clear hk HTR
      go_wp2_with fail
      refine (rCheck_any a2 l 20 c2 ev _ HN.out (H2.out.later (g2.trans (by (repeat' (first | (with_reducible exact G.refl _) | (with_reducible assumption) | (with_reducible refine G.drewN ?_ _) | (with_reducible refine G.drew ?_) | (with_reducible refine G.alloc ?_ _) | (with_reducible refine G.setCell ?_ (by first | (with_reducible exact Nat.le_refl _) | (simp; done) | (simp; omega) | omega) _) | (with_reducible refine G.trans ?_ (by assumption)))))))).mono ?_
      rintro x w3 ⟨rfl, hG3⟩
      have g3 : G w1 w3 := g2.trans (G.trans (by (repeat' (first | (with_reducible exact G.refl _) | (with_reducible refine G.drewN ?_ _) | (with_reducible refine G.drew ?_) | (with_reducible refine G.alloc ?_ _)))) hG3)
      rw [hE.out]
      go_wp2_with fail
      refine (known_any _).mono ?_
      rintro x w4 ⟨rfl, hG4⟩
      have g4 : G w1 w4 := g3.trans (G.trans (by (repeat' (first | (with_reducible exact G.refl _) | (with_reducible refine G.drewN ?_ _) | (with_reducible refine G.drew ?_) | (with_reducible refine G.alloc ?_ _)))) hG4)
      go_wp2_with fail
      refine (known_any _).mono ?_
      rintro x w5 ⟨rfl, hG5⟩
      have g5 : G w1 w5 := g4.trans (G.trans (by (repeat' (first | (with_reducible exact G.refl _) | (with_reducible refine G.drewN ?_ _) | (with_reducible refine G.drew ?_) | (with_reducible refine G.alloc ?_ _)))) hG5)
      go_wp2_with fail
      go_ret
      exact ⟨by first | rfl | simp, g1.trans (g5.trans (by (repeat' (first | (with_reducible exact G.refl _) | (with_reducible assumption) | (with_reducible refine G.drewN ?_ _) | (with_reducible refine G.drew ?_) | (with_reducible refine G.alloc ?_ _) | (with_reducible refine G.setCell ?_ (by first | (with_reducible exact Nat.le_refl _) | (simp; done) | (simp; omega) | omega) _) | (with_reducible refine G.trans ?_ (by assumption))))))⟩
    have hA := HTR.out
    unfold TreeR at hA
    rw [if_pos hk] at hA
    obtain ⟨g, rfl, hcells⟩ := hA
    have HCE := Lib.hid hcells
    have HKO := Lib.hid (ckT_ok hk)
    have HTD := Lib.hid (fun i t (h : l[i]? = some t) => tr_def hk h)
    have HCK := Lib.hid hk
    rw [hk, HN.out]
    clear hk hcells HTR
    go_wp2_with fail
    refine (rCheck_any a2 l 20 c2 ev _ HN.out (H2.out.later (g2.trans (by (repeat' (first | (with_reducible exact G.refl _) | (with_reducible assumption) | (with_reducible refine G.drewN ?_ _) | (with_reducible refine G.drew ?_) | (with_reducible refine G.alloc ?_ _) | (with_reducible refine G.setCell ?_ (by first | (with_reducible exact Nat.le_refl _) | (simp; done) | (simp; omega) | omega) _) | (with_reducible refine G.trans ?_ (by assumption)))))))).mono ?_
    rintro x w3 ⟨rfl, hG3⟩
    have g23 : G w2 w3 := G.trans (by (repeat' (first | (with_reducible exact G.refl _) | (with_reducible refine G.drewN ?_ _) | (with_reducible refine G.drew ?_) | (with_reducible refine G.alloc ?_ _)))) hG3
    rw [HCK.out]
    go_wp2_with fail
    refine (known_any _).mono ?_
    rintro x w4 ⟨rfl, hG4⟩
    have g24 : G w2 w4 := g23.trans (G.trans (by (repeat' (first | (with_reducible exact G.refl _) | (with_reducible refine G.drewN ?_ _) | (with_reducible refine G.drew ?_) | (with_reducible refine G.alloc ?_ _)))) hG4)
    go_wp2_with fail
    go_loopg [9] 20 (fun q x wr => ∃ i : Nat, x = .int .i64 i ∧ q = 20 - i ∧ i ≤ 20 ∧ G w2 wr)
    case atStart => exact ⟨0, rfl, by omega, by omega, g24.trans (by (repeat' (first | (with_reducible exact G.refl _) | (with_reducible assumption) | (with_reducible refine G.drewN ?_ _) | (with_reducible refine G.drew ?_) | (with_reducible refine G.alloc ?_ _) | (with_reducible refine G.setCell ?_ (by first | (with_reducible exact Nat.le_refl _) | (simp; done) | (simp; omega) | omega) _) | (with_reducible refine G.trans ?_ (by assumption)))))⟩
    case round =>
      obtain ⟨i, rfl, hq, hi, gr⟩ := hrel
      have HQ := Lib.hid hq
      clear hq
      by_cases hin : i < 20
      · obtain ⟨⟨f, cc, aa, nn⟩, hp⟩ : ∃ z, l[i]? = some z := ⟨l[i]'(by have := HN.out; omega), List.getElem?_eq_getElem (by have := HN.out; omega)⟩
        rcases H2.out with hz | ⟨b0, of, rfl, fc⟩
        · rw [hz] at hp; simp at hp
        have FC := Lib.hid fc
        have HBD := Lib.hid (show ∀ (k : Nat) (t : Tu), l[k]? = some t → -9223372036854775808 ≤ t.f + t.c ∧ t.f + t.c ≤ 9223372036854775807 from fun k t h2 => by
          have := HKO.out.2.2.2.1 t (List.mem_of_getElem? h2)
          have := HKO.out.1
          unfold InR at *
          omega)
        have HBI := Lib.hid (HBD.out i _ hp)
        have HWN := Lib.hid (HTD.out i _ hp)
        have HP := Lib.hid hp
        have t0 := HCE.out i (by have := HN.out; omega)
        have HT0 := Lib.hid t0
        have b1 : (0 : Int) ≤ (i : Int) := by omega
        have b2 : (i : Int) < (20 : Int) := by omega
        have b3 : ¬ ((20 : Int) ≤ (i : Int)) := by omega
        have HIN := Lib.hid hin
        have q1 := IntWalk.i64_in ((i : Int) + 1) (by have := HK.out; omega)
        clear fc hp t0
        go_wp2_with fail
        go_loopg [10, 11] i (fun q x y wr2 => ∃ k : Nat, x = .int .i64 (wn l ⟨f, cc, aa, nn⟩ k) ∧ y = .int .i64 k ∧ q = i - k ∧ k ≤ i ∧ G w2 wr2)
        case atStart => exact ⟨0, rfl, rfl, by omega, by omega, gr.trans (by (repeat' (first | (with_reducible exact G.refl _) | (with_reducible assumption) | (with_reducible refine G.drewN ?_ _) | (with_reducible refine G.drew ?_) | (with_reducible refine G.alloc ?_ _) | (with_reducible refine G.setCell ?_ (by first | (with_reducible exact Nat.le_refl _) | (simp; done) | (simp; omega) | omega) _) | (with_reducible refine G.trans ?_ (by assumption)))))⟩
        case round =>
          obtain ⟨k, rfl, rfl, hq2, hk, gr2⟩ := hrel
          have HQ2 := Lib.hid hq2
          clear hq2
          by_cases hki : k < i
          · obtain ⟨⟨f', c', a', n'⟩, hp'⟩ : ∃ z, l[k]? = some z := ⟨l[k]'(by have := HN.out; omega), List.getElem?_eq_getElem (by have := HN.out; omega)⟩
            obtain ⟨x0, x1, x2, x3⟩ := (FC.out i _ HP.out).later (g2.trans gr2)
            obtain ⟨y0, y1, y2, y3⟩ := (FC.out k _ hp').later (g2.trans gr2)
            dsimp only at x0 x1 x2 x3 y0 y1 y2 y3
            have HBK := Lib.hid (HBD.out k _ hp')
            have HNX := Lib.hid (show wn l ⟨f, cc, aa, nn⟩ (k + 1) = if Wi ⟨f, cc, aa, nn⟩ ⟨f', c', a', n'⟩ then (k : Int) else wn l ⟨f, cc, aa, nn⟩ k by rw [wn, at_get hp'])
            have k1 : (0 : Int) ≤ (k : Int) := by omega
            have k2 : (k : Int) < (20 : Int) := by omega
            have k3 : (k : Int) < (i : Int) := by omega
            have q2 := IntWalk.i64_in ((k : Int) + 1) (by have := HK.out; omega)
            clear hp'
            by_cases hw : Wi ⟨f, cc, aa, nn⟩ ⟨f', c', a', n'⟩
            · have HW := Lib.hid hw
              have HN2 := Lib.hid (HNX.out.trans (if_pos hw))
              clear hw
              go_wp2_with fail
              go_region_held3 (fun w' => w'.cell? ⟨b0, of + i * 4, none⟩ = some (.int .i64 f) ∧ w'.cell? ⟨b0, of + i * 4 + 1, none⟩ = some (.int .i64 cc) ∧ w'.cell? ⟨b0, of + i * 4 + 2, none⟩ = some (.int .i64 aa) ∧ w'.cell? ⟨b0, of + i * 4 + 3, none⟩ = some (.int .i64 nn) ∧ w'.cell? ⟨b0, of + k * 4, none⟩ = some (.int .i64 f') ∧ w'.cell? ⟨b0, of + k * 4 + 1, none⟩ = some (.int .i64 c') ∧ w'.cell? ⟨b0, of + k * 4 + 2, none⟩ = some (.int .i64 a') ∧ w'.cell? ⟨b0, of + k * 4 + 3, none⟩ = some (.int .i64 n'))
                (first | (with_reducible assumption) | ((try dsimp only); (repeat' (with_reducible apply And.intro)) <;> go_simp))
                (first | (go_at_call 31; refine (rWithin_any _ _ _ _ _ _ _ _ _ HBI.out HBK.out).mono ?_; rintro x w6 ⟨rfl, hG6⟩; rw [decide_eq_true HW.out]; have gq : G wr w6 := G.trans (by (repeat' (first | (with_reducible exact G.refl _) | (with_reducible refine G.drewN ?_ _) | (with_reducible refine G.drew ?_) | (with_reducible refine G.alloc ?_ _)))) hG6; have P0 := gq.at x0; have P1 := gq.at x1; have P2 := gq.at x2; have P3 := gq.at x3; have Q0 := gq.at y0; have Q1 := gq.at y1; have Q2 := gq.at y2; have Q3 := gq.at y3))
              all_goals
                go_wp2_with fail
                go_roundg (i - (k + 1))
                case measure => have := HQ2.out; omega
                case rel => exact ⟨k + 1, by rw [HN2.out]; first | done | rfl, by go_num, rfl, by omega, gr2.trans gq⟩
            · have HW := Lib.hid hw
              have HN2 := Lib.hid (HNX.out.trans (if_neg hw))
              clear hw
              go_wp2_with fail
              go_region_held3 (fun w' => w'.cell? ⟨b0, of + i * 4, none⟩ = some (.int .i64 f) ∧ w'.cell? ⟨b0, of + i * 4 + 1, none⟩ = some (.int .i64 cc) ∧ w'.cell? ⟨b0, of + i * 4 + 2, none⟩ = some (.int .i64 aa) ∧ w'.cell? ⟨b0, of + i * 4 + 3, none⟩ = some (.int .i64 nn) ∧ w'.cell? ⟨b0, of + k * 4, none⟩ = some (.int .i64 f') ∧ w'.cell? ⟨b0, of + k * 4 + 1, none⟩ = some (.int .i64 c') ∧ w'.cell? ⟨b0, of + k * 4 + 2, none⟩ = some (.int .i64 a') ∧ w'.cell? ⟨b0, of + k * 4 + 3, none⟩ = some (.int .i64 n'))
                (first | (with_reducible assumption) | ((try dsimp only); (repeat' (with_reducible apply And.intro)) <;> go_simp))
                (first | (go_at_call 31; refine (rWithin_any _ _ _ _ _ _ _ _ _ HBI.out HBK.out).mono ?_; rintro x w6 ⟨rfl, hG6⟩; rw [decide_eq_false HW.out]; have gq : G wr w6 := G.trans (by (repeat' (first | (with_reducible exact G.refl _) | (with_reducible refine G.drewN ?_ _) | (with_reducible refine G.drew ?_) | (with_reducible refine G.alloc ?_ _)))) hG6; have P0 := gq.at x0; have P1 := gq.at x1; have P2 := gq.at x2; have P3 := gq.at x3; have Q0 := gq.at y0; have Q1 := gq.at y1; have Q2 := gq.at y2; have Q3 := gq.at y3))
              all_goals
                go_wp2_with fail
                go_roundg (i - (k + 1))
                case measure => have := HQ2.out; omega
                case rel => exact ⟨k + 1, by rw [HN2.out]; first | done | rfl, by go_num, rfl, by omega, gr2.trans gq⟩
          · have hkk : k = i := by omega
            have hwk : wn l ⟨f, cc, aa, nn⟩ k = tr l i := by rw [hkk]; exact HWN.out
            rw [hwk]
            have z0 := gr2.at HT0.out
            obtain ⟨T, hT⟩ : ∃ z : Int, Hid (tr l i = z) := ⟨_, rfl⟩
            rw [hT.out] at z0 ⊢
            have k4 : ¬ (k : Int) < (i : Int) := by omega
            clear hwk hkk
            go_wp2_with fail
            go_roundg (20 - (i + 1))
            case measure => have := HQ.out; have := HIN.out; omega
            case rel => exact ⟨i + 1, by go_num, rfl, by have := HIN.out; omega, by (repeat' (first | (with_reducible exact G.refl _) | (with_reducible assumption) | (with_reducible refine G.drewN ?_ _) | (with_reducible refine G.drew ?_) | (with_reducible refine G.alloc ?_ _) | (with_reducible refine G.setCell ?_ (by first | (with_reducible exact Nat.le_refl _) | (simp; done) | (simp; omega) | omega) _) | (with_reducible refine G.trans ?_ (by assumption))))⟩
      · have b2 : ¬ (i : Int) < (20 : Int) := by omega
        go_wp2_with fail
        go_ret
        exact ⟨by first | rfl | simp, g1.trans (g2.trans (gr.trans (by (repeat' (first | (with_reducible exact G.refl _) | (with_reducible assumption) | (with_reducible refine G.drewN ?_ _) | (with_reducible refine G.drew ?_) | (with_reducible refine G.alloc ?_ _) | (with_reducible refine G.setCell ?_ (by first | (with_reducible exact Nat.le_refl _) | (simp; done) | (simp; omega) | omega) _) | (with_reducible refine G.trans ?_ (by assumption)))))))⟩

/-! ### the row and the card -/
open Go.ChangeShapes Go.WideShapes Go.ChangeAt Go.RowKit
set_option maxRecDepth 100000 in
theorem tupletTrees_lifted (os : Os) (started : os.Started) (H : Type) (enc : TypeId × Value → H) :
    ReturnsInHanded {} Try.checked os 9 .any (Rows.tupletTreesSpec.pre6 enc Try.prog Try.f9 Rows.tupletTreesRow.domain false)
      (Rows.tupletTreesSpec.post enc Try.prog Try.f9 false true false false) := by
  refine returnsInHanded_of_change (C := Try.checked) own started (by kernel_rfl) Try.func9
    (ChangeSpec.witness6 (enc := enc) (C := Try.checked) false ⟨#[], #[.slice none 0 0, .int .i64 0], []⟩ 8 (by kernel_rfl) (by kernel_rfl) (by kernel_rfl) (by kernel_rfl)) ?_
  intro W base args ds gs before hval0 hW _ _
  have hval : ∀ (j : Nat) t v, Try.f9.params[j]? = some t → args[j]? = some v → Value.okWide Try.prog W .any base t v := hval0
  have hW' := hW
  obtain ⟨p, q, hA0, hV, rfl, hfz, hnd⟩ := hW
  have hA : DataW.TrodAll enc Try.prog W 0 (fun _ => true) true Try.f9.params.toList args.toList ds p := hA0
  rw [Try.params9] at hA hval
  obtain ⟨v0, vs0, d0, ds0, p0, q0, hargs, rfl, rfl, h0, r0⟩ := trodAll_cons hA
  obtain ⟨v1, vs1, d1, ds1, p1, q1, rfl, rfl, rfl, h1, r1⟩ := trodAll_cons r0
  obtain ⟨rfl, rfl, rfl⟩ := trodAll_nil r1
  obtain rfl : args = #[v0, v1] := by cases args; simp_all
  obtain ⟨rfl, rfl⟩ := trodVars_none hV
  have keep0 := h0
  obtain ⟨a0, cap0, l0, rfl, lc0, mc0, la0, wf0, lz0⟩ := open_tusArg (hval 0 22 v0 rfl rfl) h0
  obtain ⟨a1, rfl, rfl, rfl, w1⟩ := open_int Try.underlying3 (hval 1 3 v1 rfl rfl) h1
  obtain ⟨bl1, bh1⟩ := bounds_i64 w1
  clear hA0 hval0
  simp only [List.append_nil] at hW'
  have hlt0 : ∀ x ∈ p0, x.block < W.heap.size := fun x hx => by have := hW'.lt x (by simp [hx]); simpa using this
  refine (trees_walk a0 l0 cap0 a1 W lc0 mc0 la0 lz0 wf0 bl1 bh1  ).mono fun e W' ⟨he, hg⟩ => ?_
  subst he
  exact ⟨_, rfl, _, _, _, [], (p0 ++ ([] ++ [])), [], hW', (trodAll_cons_mk (shut_bool Try.underlying4 _) trodAll_mk0), (trodAll_cons_mk (Below.trod (by kernel_rfl) (by kernel_rfl) (of_decide_eq_true (by kernel_rfl)) keep0 hg hlt0) (trodAll_cons_mk (shut_int Try.underlying3 w1) trodAll_mk0)), rfl, Below.frame hg _, fun h => by cases h⟩

theorem tupletTrees_holds : Rows.TupletTreesSaid :=
  OpenClaim.holds_of_wide 9 Try.f9 rfl rfl rfl rfl rfl rfl rfl ⟨rfl, rfl, rfl, rfl, rfl⟩ rfl rfl rfl rfl rfl (by kernel_rfl) Try.func9 (by kernel_rfl)
    (of_decide_eq_true (by kernel_rfl)) (by unfold Func.isWrapper; first | (rw [if_pos (by decide +kernel)]; kernel_rfl) | (rw [if_neg (by decide +kernel)]; exact ⟨rfl, rfl⟩))
    (fun os started H enc _ => tupletTrees_lifted os started H enc)

#print axioms tupletTrees_holds
end Go.Proofs.Ytabaiklagobimaa
