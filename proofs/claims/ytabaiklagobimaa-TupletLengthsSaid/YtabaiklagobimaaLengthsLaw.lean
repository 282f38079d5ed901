/- TupletLengths: for any tuplets and written lengths (up to 20 tuplets and 130 events), Lengths and Sum agree with the definition; the arguments read as before; no further condition. -/
import Derived.Test.YtabaiklagobimaaRows
import Derived.Test.YtabaiklagobimaaR4
import Derived.Test.YtabaiklagobimaaLaid
namespace Go.Proofs.Ytabaiklagobimaa
open Go.RowKit Go.ChangeShapes Go.WideShapes
attribute [local go_sem] World.cell?_alloc_some

set_option maxRecDepth 100000 in
set_option maxHeartbeats 12800000 in
theorem lengths_walk (a : Option Addr) (l0 : List Tu) (c : Nat) (b : Option Addr) (r0 : List Int) (d : Nat)  (w : World) (hc : l0.length ≤ c) (_ : c ≤ maxLen) (h1 : TusAt w a l0) (_ : a = none → c = 0) (hwf : ∀ n ∈ l0, (Lit.int .i64 n.c).wf = true) (hd : r0.length ≤ d) (_ : d ≤ maxLen) (h2 : IntsAt w b r0) (_ : b = none → d = 0)  :
    Calls Try.prog 6 #[.slice a l0.length c, .slice b r0.length d] w fun x w' => x = .returned (.bool true) ∧ G w w' := by
  by_cases k20 : (l0.length : Int) ≤ 20
  · by_cases k130 : (r0.length : Int) ≤ 130
    · have H1 := Lib.hid h1
      have HC := Lib.hid (cb_of hwf)
      have HN := Lib.hid (show l0.length = l0.length from rfl)
      have HK := Lib.hid (show l0.length ≤ 20 by omega)
      have m3 : (l0.length : Int) ≤ (c : Int) := by omega
      have m5 : l0.length ≤ c := by omega
      generalize l0 = l at *
      obtain ⟨n, hn⟩ : ∃ z : Nat, Hid (l.length = z) := ⟨_, rfl⟩
      rw [hn.out] at HK k20 m3 m5 ⊢
      clear HN h1 hwf hc
      have HN := hn
      clear hn
      have H2 := Lib.hid h2
      have HM2 := Lib.hid (show r0.length ≤ 1000 by omega)
      have u3 : (r0.length : Int) ≤ (d : Int) := by omega
      have u5 : r0.length ≤ d := by omega
      generalize r0 = r at *
      obtain ⟨m, hm⟩ : ∃ z : Nat, Hid (r.length = z) := ⟨_, rfl⟩
      rw [hm.out] at HM2 k130 u3 u5 ⊢
      clear h2 hd
      have HM := hm
      clear hm
      go_enter Try.func6, Try.ntmps6
      go_wp2_with fail
      go_big_region
      all_goals
        go_wp2_with fail
        refine (tLengths_any a b l r n c m d _ HN.out HM.out HM2.out (H1.out.later (by (repeat' (first | (with_reducible exact G.refl _) | (with_reducible assumption) | (with_reducible refine G.drewN ?_ _) | (with_reducible refine G.drew ?_) | (with_reducible refine G.alloc ?_ _) | (with_reducible refine G.setCell ?_ (by first | (with_reducible exact Nat.le_refl _) | (simp; done) | (simp; omega) | omega) _) | (with_reducible refine G.trans ?_ (by assumption)))))) HC.out (H2.out.later (by (repeat' (first | (with_reducible exact G.refl _) | (with_reducible assumption) | (with_reducible refine G.drewN ?_ _) | (with_reducible refine G.drew ?_) | (with_reducible refine G.alloc ?_ _) | (with_reducible refine G.setCell ?_ (by first | (with_reducible exact Nat.le_refl _) | (simp; done) | (simp; omega) | omega) _) | (with_reducible refine G.trans ?_ (by assumption))))))).mono ?_
        rintro e w1 ⟨v, rfl, hR, hG⟩
        have g1 : G w w1 := G.trans (by (repeat' (first | (with_reducible exact G.refl _) | (with_reducible refine G.drewN ?_ _) | (with_reducible refine G.drew ?_) | (with_reducible refine G.alloc ?_ _)))) hG
        have HQ1 := Lib.hid hR.q
        clear hR
        obtain ⟨E, hE⟩ : ∃ z : Int, Hid (lensT l r = z) := ⟨_, rfl⟩
        rw [hE.out]
        go_wp2_with fail
        refine (to_any a l n c _ HN.out HK.out (H1.out.later (g1.trans (by (repeat' (first | (with_reducible exact G.refl _) | (with_reducible assumption) | (with_reducible refine G.drewN ?_ _) | (with_reducible refine G.drew ?_) | (with_reducible refine G.alloc ?_ _) | (with_reducible refine G.setCell ?_ (by first | (with_reducible exact Nat.le_refl _) | (simp; done) | (simp; omega) | omega) _) | (with_reducible refine G.trans ?_ (by assumption)))))))).mono ?_
        rintro x w3 ⟨v2, rfl, hR, hG3⟩
        have g3 : G w1 w3 := G.trans (by (repeat' (first | (with_reducible exact G.refl _) | (with_reducible refine G.drewN ?_ _) | (with_reducible refine G.drew ?_) | (with_reducible refine G.alloc ?_ _)))) hG3
        obtain ⟨a2, c2, rfl, hT2⟩ := hR.tus
        rw [HN.out]
        have H3 := Lib.hid hT2
        clear hR hT2
        go_wp2_with fail
        refine (rLengths_any a2 b l r n c2 m d _ HN.out HM.out HM2.out (H3.out.later (by (repeat' (first | (with_reducible exact G.refl _) | (with_reducible assumption) | (with_reducible refine G.drewN ?_ _) | (with_reducible refine G.drew ?_) | (with_reducible refine G.alloc ?_ _) | (with_reducible refine G.setCell ?_ (by first | (with_reducible exact Nat.le_refl _) | (simp; done) | (simp; omega) | omega) _) | (with_reducible refine G.trans ?_ (by assumption)))))) (H2.out.later (g1.trans (g3.trans (by (repeat' (first | (with_reducible exact G.refl _) | (with_reducible assumption) | (with_reducible refine G.drewN ?_ _) | (with_reducible refine G.drew ?_) | (with_reducible refine G.alloc ?_ _) | (with_reducible refine G.setCell ?_ (by first | (with_reducible exact Nat.le_refl _) | (simp; done) | (simp; omega) | omega) _) | (with_reducible refine G.trans ?_ (by assumption))))))))).mono ?_
        rintro e w4 ⟨v4, rfl, hQ4, hG4⟩
        have g4 : G w1 w4 := g3.trans (G.trans (by (repeat' (first | (with_reducible exact G.refl _) | (with_reducible refine G.drewN ?_ _) | (with_reducible refine G.drew ?_) | (with_reducible refine G.alloc ?_ _)))) hG4)
        have HQ4 := Lib.hid hQ4
        clear hQ4
        rw [hE.out]
        go_wp2_with fail
        refine (tSum_any a b l r n c m d _ HN.out HM.out HM2.out (H1.out.later (g1.trans (g4.trans (by (repeat' (first | (with_reducible exact G.refl _) | (with_reducible assumption) | (with_reducible refine G.drewN ?_ _) | (with_reducible refine G.drew ?_) | (with_reducible refine G.alloc ?_ _) | (with_reducible refine G.setCell ?_ (by first | (with_reducible exact Nat.le_refl _) | (simp; done) | (simp; omega) | omega) _) | (with_reducible refine G.trans ?_ (by assumption)))))))) HC.out (H2.out.later (g1.trans (g4.trans (by (repeat' (first | (with_reducible exact G.refl _) | (with_reducible assumption) | (with_reducible refine G.drewN ?_ _) | (with_reducible refine G.drew ?_) | (with_reducible refine G.alloc ?_ _) | (with_reducible refine G.setCell ?_ (by first | (with_reducible exact Nat.le_refl _) | (simp; done) | (simp; omega) | omega) _) | (with_reducible refine G.trans ?_ (by assumption))))))))).mono ?_
        rintro e w5 ⟨rfl, hG5⟩
        have g45 : G w4 w5 := G.trans (by (repeat' (first | (with_reducible exact G.refl _) | (with_reducible refine G.drewN ?_ _) | (with_reducible refine G.drew ?_) | (with_reducible refine G.alloc ?_ _)))) hG5
        rw [hE.out]
        obtain ⟨S, hS⟩ : ∃ z : Int, Hid (z = sumT l r) := ⟨_, rfl⟩
        rw [← hS.out]
        by_cases hk : lensT l r = 0
        · have HS := Lib.hid (show S = sm (lens l 0 r) by rw [hS.out]; exact if_pos hk)
          have hA := HQ1.out
          have hB := HQ4.out
          have HF : Fit l := by
            unfold lensT at hk
            by_cases h : ckT r.length l = 0
            · exact ckT_fit h
            · rw [if_neg h] at hk; exact absurd hk h
          have HBD := Lib.hid (lens_bd HF r 0)
          unfold LensQ at hA hB
          rw [if_pos hk] at hA hB
          obtain ⟨pa, pc, rfl, hIA⟩ := hA
          obtain ⟨pb, pd, rfl, hIB⟩ := hB
          have HLL := Lib.hid (show (lens l 0 r).length = m by rw [lens_len]; exact HM.out)
          obtain ⟨M, hM⟩ : ∃ z, Hid (z = lens l 0 r) := ⟨_, rfl⟩
          rw [← hM.out] at HLL HBD HS hIA hIB
          have HIA := Lib.hid (hIA.later (g4.trans g45))
          have HIB := Lib.hid (hIB.later g45)
          rw [HM.out]
          clear hIA hIB hk HF HQ1 HQ4
          go_wp2_with fail
          go_loopg [11, 12] m (fun q x y wr => ∃ i : Nat, x = .int .i64 (sm (M.take i)) ∧ y = .int .i64 i ∧ q = m - i ∧ i ≤ m ∧ G w5 wr)
          case atStart => exact ⟨0, by simp [sm], rfl, by omega, by omega, by (repeat' (first | (with_reducible exact G.refl _) | (with_reducible assumption) | (with_reducible refine G.drewN ?_ _) | (with_reducible refine G.drew ?_) | (with_reducible refine G.alloc ?_ _) | (with_reducible refine G.setCell ?_ (by first | (with_reducible exact Nat.le_refl _) | (simp; done) | (simp; omega) | omega) _) | (with_reducible refine G.trans ?_ (by assumption))))⟩
          case round =>
            obtain ⟨i, rfl, rfl, hq, hi, gr⟩ := hrel
            have HQ := Lib.hid hq
            clear hq
            by_cases hin : i < m
            · obtain ⟨x, hx⟩ : ∃ z, M[i]? = some z := ⟨M[i]'(by have := HLL.out; omega), List.getElem?_eq_getElem (by have := HLL.out; omega)⟩
              rcases HIB.out with hz | ⟨b0, of, rfl, fc⟩
              · rw [hz] at hx; simp at hx
              have x0 := gr.at (fc i _ hx)
              have s1 := sm_bd HBD.out (i + 1) (by have := HLL.out; omega)
              rw [sm_next hx] at s1
              have HSN := Lib.hid (sm_next hx)
              obtain ⟨Y, hY⟩ : ∃ z : Int, Hid (sm (M.take i) = z) := ⟨_, rfl⟩
              rw [hY.out] at s1 HSN ⊢
              have b1 : (0 : Int) ≤ (i : Int) := by omega
              have b2 : (i : Int) < (m : Int) := by omega
              have q1 := IntWalk.i64_in ((i : Int) + 1) (by have := HM2.out; omega)
              have q2 := IntWalk.i64_in (Y + x) (by have := HM2.out; omega)
              clear fc hx s1
              go_wp2_with fail
              go_roundg (m - (i + 1))
              case measure => have := HQ.out; omega
              case rel => exact ⟨i + 1, by rw [HSN.out]; first | done | rfl | go_num, by go_num, rfl, by omega, by (repeat' (first | (with_reducible exact G.refl _) | (with_reducible assumption) | (with_reducible refine G.drewN ?_ _) | (with_reducible refine G.drew ?_) | (with_reducible refine G.alloc ?_ _) | (with_reducible refine G.setCell ?_ (by first | (with_reducible exact Nat.le_refl _) | (simp; done) | (simp; omega) | omega) _) | (with_reducible refine G.trans ?_ (by assumption))))⟩
            · have hii : i = m := by omega
              have HSS := Lib.hid (show sm (M.take i) = S by rw [HS.out, List.take_of_length_le (by have := HLL.out; omega)])
              subst hii
              rw [HSS.out]
              go_wp2_with fail
              refine (known_any _).mono ?_
              rintro x w6 ⟨rfl, hG6⟩
              have g6 : G w5 w6 := gr.trans (G.trans (by (repeat' (first | (with_reducible exact G.refl _) | (with_reducible refine G.drewN ?_ _) | (with_reducible refine G.drew ?_) | (with_reducible refine G.alloc ?_ _)))) hG6)
              go_wp2_with fail
              refine (numbers_same _ _ M _ _ _ _ HLL.out HM2.out (HIA.out.later (g6.trans (by (repeat' (first | (with_reducible exact G.refl _) | (with_reducible assumption) | (with_reducible refine G.drewN ?_ _) | (with_reducible refine G.drew ?_) | (with_reducible refine G.alloc ?_ _) | (with_reducible refine G.setCell ?_ (by first | (with_reducible exact Nat.le_refl _) | (simp; done) | (simp; omega) | omega) _) | (with_reducible refine G.trans ?_ (by assumption))))))) (HIB.out.later (g6.trans (by (repeat' (first | (with_reducible exact G.refl _) | (with_reducible assumption) | (with_reducible refine G.drewN ?_ _) | (with_reducible refine G.drew ?_) | (with_reducible refine G.alloc ?_ _) | (with_reducible refine G.setCell ?_ (by first | (with_reducible exact Nat.le_refl _) | (simp; done) | (simp; omega) | omega) _) | (with_reducible refine G.trans ?_ (by assumption)))))))).mono ?_
              rintro x w7 ⟨rfl, hG7⟩
              have g7 : G w5 w7 := g6.trans (G.trans (by (repeat' (first | (with_reducible exact G.refl _) | (with_reducible refine G.drewN ?_ _) | (with_reducible refine G.drew ?_) | (with_reducible refine G.alloc ?_ _)))) hG7)
              go_wp2_with fail
              go_ret
              exact ⟨by first | rfl | simp, g1.trans (g4.trans (g45.trans (g7.trans (by (repeat' (first | (with_reducible exact G.refl _) | (with_reducible assumption) | (with_reducible refine G.drewN ?_ _) | (with_reducible refine G.drew ?_) | (with_reducible refine G.alloc ?_ _) | (with_reducible refine G.setCell ?_ (by first | (with_reducible exact Nat.le_refl _) | (simp; done) | (simp; omega) | omega) _) | (with_reducible refine G.trans ?_ (by assumption))))))))⟩
        · have HS := Lib.hid (show S = 0 by rw [hS.out]; exact if_neg hk)
          have hA := HQ1.out
          have hB := HQ4.out
          unfold LensQ at hA hB
          rw [if_neg hk] at hA hB
          subst hA hB
          rw [HS.out]
          clear hk HQ1 HQ4
          go_wp2_with fail
          go_loopg [11, 12] 0 (fun q x y wr => x = .int .i64 0 ∧ y = .int .i64 0 ∧ q = 0 ∧ G w5 wr)
          case atStart => exact ⟨rfl, rfl, rfl, by (repeat' (first | (with_reducible exact G.refl _) | (with_reducible assumption) | (with_reducible refine G.drewN ?_ _) | (with_reducible refine G.drew ?_) | (with_reducible refine G.alloc ?_ _) | (with_reducible refine G.setCell ?_ (by first | (with_reducible exact Nat.le_refl _) | (simp; done) | (simp; omega) | omega) _) | (with_reducible refine G.trans ?_ (by assumption))))⟩
          case round =>
            obtain ⟨rfl, rfl, rfl, gr⟩ := hrel
            go_wp2_with fail
            refine (known_any _).mono ?_
            rintro x w6 ⟨rfl, hG6⟩
            have g6 : G w5 w6 := gr.trans (G.trans (by (repeat' (first | (with_reducible exact G.refl _) | (with_reducible refine G.drewN ?_ _) | (with_reducible refine G.drew ?_) | (with_reducible refine G.alloc ?_ _)))) hG6)
            go_wp2_with fail
            refine (numbers_nil _).mono ?_
            rintro x w7 ⟨rfl, hG7⟩
            have g7 : G w5 w7 := g6.trans (G.trans (by (repeat' (first | (with_reducible exact G.refl _) | (with_reducible refine G.drewN ?_ _) | (with_reducible refine G.drew ?_) | (with_reducible refine G.alloc ?_ _)))) hG7)
            go_wp2_with fail
            go_ret
            exact ⟨by first | rfl | simp, g1.trans (g4.trans (g45.trans (g7.trans (by (repeat' (first | (with_reducible exact G.refl _) | (with_reducible assumption) | (with_reducible refine G.drewN ?_ _) | (with_reducible refine G.drew ?_) | (with_reducible refine G.alloc ?_ _) | (with_reducible refine G.setCell ?_ (by first | (with_reducible exact Nat.le_refl _) | (simp; done) | (simp; omega) | omega) _) | (with_reducible refine G.trans ?_ (by assumption))))))))⟩
    · have H1 := Lib.hid h1
      have HC := Lib.hid (cb_of hwf)
      have HN := Lib.hid (show l0.length = l0.length from rfl)
      have HK := Lib.hid (show l0.length ≤ 20 by omega)
      have m3 : (l0.length : Int) ≤ (c : Int) := by omega
      have m5 : l0.length ≤ c := by omega
      generalize l0 = l at *
      obtain ⟨n, hn⟩ : ∃ z : Nat, Hid (l.length = z) := ⟨_, rfl⟩
      rw [hn.out] at HK k20 m3 m5 ⊢
      clear HN h1 hwf hc
      have HN := hn
      clear hn
      have H2 := Lib.hid (h2.take 130)
      have HM := Lib.hid (show (r0.take 130).length = 130 by rw [List.length_take]; omega)
      have HM2 := Lib.hid (show 130 ≤ 1000 by omega)
      have u3 : (130 : Int) ≤ (d : Int) := by omega
      have u4 : 130 ≤ d := by omega
      generalize r0.take 130 = r at *
      clear h2 hd
      go_enter Try.func6, Try.ntmps6
      go_wp2_with fail
      go_big_region
      all_goals
        go_wp2_with fail
        refine (tLengths_any a b l r n c 130 d _ HN.out HM.out HM2.out (H1.out.later (by (repeat' (first | (with_reducible exact G.refl _) | (with_reducible assumption) | (with_reducible refine G.drewN ?_ _) | (with_reducible refine G.drew ?_) | (with_reducible refine G.alloc ?_ _) | (with_reducible refine G.setCell ?_ (by first | (with_reducible exact Nat.le_refl _) | (simp; done) | (simp; omega) | omega) _) | (with_reducible refine G.trans ?_ (by assumption)))))) HC.out (H2.out.later (by (repeat' (first | (with_reducible exact G.refl _) | (with_reducible assumption) | (with_reducible refine G.drewN ?_ _) | (with_reducible refine G.drew ?_) | (with_reducible refine G.alloc ?_ _) | (with_reducible refine G.setCell ?_ (by first | (with_reducible exact Nat.le_refl _) | (simp; done) | (simp; omega) | omega) _) | (with_reducible refine G.trans ?_ (by assumption))))))).mono ?_
        rintro e w1 ⟨v, rfl, hR, hG⟩
        have g1 : G w w1 := G.trans (by (repeat' (first | (with_reducible exact G.refl _) | (with_reducible refine G.drewN ?_ _) | (with_reducible refine G.drew ?_) | (with_reducible refine G.alloc ?_ _)))) hG
        have HQ1 := Lib.hid hR.q
        clear hR
        obtain ⟨E, hE⟩ : ∃ z : Int, Hid (lensT l r = z) := ⟨_, rfl⟩
        rw [hE.out]
        go_wp2_with fail
        refine (to_any a l n c _ HN.out HK.out (H1.out.later (g1.trans (by (repeat' (first | (with_reducible exact G.refl _) | (with_reducible assumption) | (with_reducible refine G.drewN ?_ _) | (with_reducible refine G.drew ?_) | (with_reducible refine G.alloc ?_ _) | (with_reducible refine G.setCell ?_ (by first | (with_reducible exact Nat.le_refl _) | (simp; done) | (simp; omega) | omega) _) | (with_reducible refine G.trans ?_ (by assumption)))))))).mono ?_
        rintro x w3 ⟨v2, rfl, hR, hG3⟩
        have g3 : G w1 w3 := G.trans (by (repeat' (first | (with_reducible exact G.refl _) | (with_reducible refine G.drewN ?_ _) | (with_reducible refine G.drew ?_) | (with_reducible refine G.alloc ?_ _)))) hG3
        obtain ⟨a2, c2, rfl, hT2⟩ := hR.tus
        rw [HN.out]
        have H3 := Lib.hid hT2
        clear hR hT2
        go_wp2_with fail
        refine (rLengths_any a2 b l r n c2 130 d _ HN.out HM.out HM2.out (H3.out.later (by (repeat' (first | (with_reducible exact G.refl _) | (with_reducible assumption) | (with_reducible refine G.drewN ?_ _) | (with_reducible refine G.drew ?_) | (with_reducible refine G.alloc ?_ _) | (with_reducible refine G.setCell ?_ (by first | (with_reducible exact Nat.le_refl _) | (simp; done) | (simp; omega) | omega) _) | (with_reducible refine G.trans ?_ (by assumption)))))) (H2.out.later (g1.trans (g3.trans (by (repeat' (first | (with_reducible exact G.refl _) | (with_reducible assumption) | (with_reducible refine G.drewN ?_ _) | (with_reducible refine G.drew ?_) | (with_reducible refine G.alloc ?_ _) | (with_reducible refine G.setCell ?_ (by first | (with_reducible exact Nat.le_refl _) | (simp; done) | (simp; omega) | omega) _) | (with_reducible refine G.trans ?_ (by assumption))))))))).mono ?_
        rintro e w4 ⟨v4, rfl, hQ4, hG4⟩
        have g4 : G w1 w4 := g3.trans (G.trans (by (repeat' (first | (with_reducible exact G.refl _) | (with_reducible refine G.drewN ?_ _) | (with_reducible refine G.drew ?_) | (with_reducible refine G.alloc ?_ _)))) hG4)
        have HQ4 := Lib.hid hQ4
        clear hQ4
        rw [hE.out]
        go_wp2_with fail
        refine (tSum_any a b l r n c 130 d _ HN.out HM.out HM2.out (H1.out.later (g1.trans (g4.trans (by (repeat' (first | (with_reducible exact G.refl _) | (with_reducible assumption) | (with_reducible refine G.drewN ?_ _) | (with_reducible refine G.drew ?_) | (with_reducible refine G.alloc ?_ _) | (with_reducible refine G.setCell ?_ (by first | (with_reducible exact Nat.le_refl _) | (simp; done) | (simp; omega) | omega) _) | (with_reducible refine G.trans ?_ (by assumption)))))))) HC.out (H2.out.later (g1.trans (g4.trans (by (repeat' (first | (with_reducible exact G.refl _) | (with_reducible assumption) | (with_reducible refine G.drewN ?_ _) | (with_reducible refine G.drew ?_) | (with_reducible refine G.alloc ?_ _) | (with_reducible refine G.setCell ?_ (by first | (with_reducible exact Nat.le_refl _) | (simp; done) | (simp; omega) | omega) _) | (with_reducible refine G.trans ?_ (by assumption))))))))).mono ?_
        rintro e w5 ⟨rfl, hG5⟩
        have g45 : G w4 w5 := G.trans (by (repeat' (first | (with_reducible exact G.refl _) | (with_reducible refine G.drewN ?_ _) | (with_reducible refine G.drew ?_) | (with_reducible refine G.alloc ?_ _)))) hG5
        rw [hE.out]
        obtain ⟨S, hS⟩ : ∃ z : Int, Hid (z = sumT l r) := ⟨_, rfl⟩
        rw [← hS.out]
        by_cases hk : lensT l r = 0
        · have HS := Lib.hid (show S = sm (lens l 0 r) by rw [hS.out]; exact if_pos hk)
          have hA := HQ1.out
          have hB := HQ4.out
          have HF : Fit l := by
            unfold lensT at hk
            by_cases h : ckT r.length l = 0
            · exact ckT_fit h
            · rw [if_neg h] at hk; exact absurd hk h
          have HBD := Lib.hid (lens_bd HF r 0)
          unfold LensQ at hA hB
          rw [if_pos hk] at hA hB
          obtain ⟨pa, pc, rfl, hIA⟩ := hA
          obtain ⟨pb, pd, rfl, hIB⟩ := hB
          have HLL := Lib.hid (show (lens l 0 r).length = 130 by rw [lens_len]; exact HM.out)
          obtain ⟨M, hM⟩ : ∃ z, Hid (z = lens l 0 r) := ⟨_, rfl⟩
          rw [← hM.out] at HLL HBD HS hIA hIB
          have HIA := Lib.hid (hIA.later (g4.trans g45))
          have HIB := Lib.hid (hIB.later g45)
          rw [HM.out]
          clear hIA hIB hk HF HQ1 HQ4
          go_wp2_with fail
          go_loopg [11, 12] 130 (fun q x y wr => ∃ i : Nat, x = .int .i64 (sm (M.take i)) ∧ y = .int .i64 i ∧ q = 130 - i ∧ i ≤ 130 ∧ G w5 wr)
          case atStart => exact ⟨0, by simp [sm], rfl, by omega, by omega, by (repeat' (first | (with_reducible exact G.refl _) | (with_reducible assumption) | (with_reducible refine G.drewN ?_ _) | (with_reducible refine G.drew ?_) | (with_reducible refine G.alloc ?_ _) | (with_reducible refine G.setCell ?_ (by first | (with_reducible exact Nat.le_refl _) | (simp; done) | (simp; omega) | omega) _) | (with_reducible refine G.trans ?_ (by assumption))))⟩
          case round =>
            obtain ⟨i, rfl, rfl, hq, hi, gr⟩ := hrel
            have HQ := Lib.hid hq
            clear hq
            by_cases hin : i < 130
            · obtain ⟨x, hx⟩ : ∃ z, M[i]? = some z := ⟨M[i]'(by have := HLL.out; omega), List.getElem?_eq_getElem (by have := HLL.out; omega)⟩
              rcases HIB.out with hz | ⟨b0, of, rfl, fc⟩
              · rw [hz] at hx; simp at hx
              have x0 := gr.at (fc i _ hx)
              have s1 := sm_bd HBD.out (i + 1) (by have := HLL.out; omega)
              rw [sm_next hx] at s1
              have HSN := Lib.hid (sm_next hx)
              obtain ⟨Y, hY⟩ : ∃ z : Int, Hid (sm (M.take i) = z) := ⟨_, rfl⟩
              rw [hY.out] at s1 HSN ⊢
              have b1 : (0 : Int) ≤ (i : Int) := by omega
              have b2 : (i : Int) < (130 : Int) := by omega
              have q1 := IntWalk.i64_in ((i : Int) + 1) (by have := HM2.out; omega)
              have q2 := IntWalk.i64_in (Y + x) (by have := HM2.out; omega)
              clear fc hx s1
              go_wp2_with fail
              go_roundg (130 - (i + 1))
              case measure => have := HQ.out; omega
              case rel => exact ⟨i + 1, by rw [HSN.out]; first | done | rfl | go_num, by go_num, rfl, by omega, by (repeat' (first | (with_reducible exact G.refl _) | (with_reducible assumption) | (with_reducible refine G.drewN ?_ _) | (with_reducible refine G.drew ?_) | (with_reducible refine G.alloc ?_ _) | (with_reducible refine G.setCell ?_ (by first | (with_reducible exact Nat.le_refl _) | (simp; done) | (simp; omega) | omega) _) | (with_reducible refine G.trans ?_ (by assumption))))⟩
            · have hii : i = 130 := by omega
              have HSS := Lib.hid (show sm (M.take i) = S by rw [HS.out, List.take_of_length_le (by have := HLL.out; omega)])
              subst hii
              rw [HSS.out]
              go_wp2_with fail
              refine (known_any _).mono ?_
              rintro x w6 ⟨rfl, hG6⟩
              have g6 : G w5 w6 := gr.trans (G.trans (by (repeat' (first | (with_reducible exact G.refl _) | (with_reducible refine G.drewN ?_ _) | (with_reducible refine G.drew ?_) | (with_reducible refine G.alloc ?_ _)))) hG6)
              go_wp2_with fail
              refine (numbers_same _ _ M _ _ _ _ HLL.out HM2.out (HIA.out.later (g6.trans (by (repeat' (first | (with_reducible exact G.refl _) | (with_reducible assumption) | (with_reducible refine G.drewN ?_ _) | (with_reducible refine G.drew ?_) | (with_reducible refine G.alloc ?_ _) | (with_reducible refine G.setCell ?_ (by first | (with_reducible exact Nat.le_refl _) | (simp; done) | (simp; omega) | omega) _) | (with_reducible refine G.trans ?_ (by assumption))))))) (HIB.out.later (g6.trans (by (repeat' (first | (with_reducible exact G.refl _) | (with_reducible assumption) | (with_reducible refine G.drewN ?_ _) | (with_reducible refine G.drew ?_) | (with_reducible refine G.alloc ?_ _) | (with_reducible refine G.setCell ?_ (by first | (with_reducible exact Nat.le_refl _) | (simp; done) | (simp; omega) | omega) _) | (with_reducible refine G.trans ?_ (by assumption)))))))).mono ?_
              rintro x w7 ⟨rfl, hG7⟩
              have g7 : G w5 w7 := g6.trans (G.trans (by (repeat' (first | (with_reducible exact G.refl _) | (with_reducible refine G.drewN ?_ _) | (with_reducible refine G.drew ?_) | (with_reducible refine G.alloc ?_ _)))) hG7)
              go_wp2_with fail
              go_ret
              exact ⟨by first | rfl | simp, g1.trans (g4.trans (g45.trans (g7.trans (by (repeat' (first | (with_reducible exact G.refl _) | (with_reducible assumption) | (with_reducible refine G.drewN ?_ _) | (with_reducible refine G.drew ?_) | (with_reducible refine G.alloc ?_ _) | (with_reducible refine G.setCell ?_ (by first | (with_reducible exact Nat.le_refl _) | (simp; done) | (simp; omega) | omega) _) | (with_reducible refine G.trans ?_ (by assumption))))))))⟩
        · have HS := Lib.hid (show S = 0 by rw [hS.out]; exact if_neg hk)
          have hA := HQ1.out
          have hB := HQ4.out
          unfold LensQ at hA hB
          rw [if_neg hk] at hA hB
          subst hA hB
          rw [HS.out]
          clear hk HQ1 HQ4
          go_wp2_with fail
          go_loopg [11, 12] 0 (fun q x y wr => x = .int .i64 0 ∧ y = .int .i64 0 ∧ q = 0 ∧ G w5 wr)
          case atStart => exact ⟨rfl, rfl, rfl, by (repeat' (first | (with_reducible exact G.refl _) | (with_reducible assumption) | (with_reducible refine G.drewN ?_ _) | (with_reducible refine G.drew ?_) | (with_reducible refine G.alloc ?_ _) | (with_reducible refine G.setCell ?_ (by first | (with_reducible exact Nat.le_refl _) | (simp; done) | (simp; omega) | omega) _) | (with_reducible refine G.trans ?_ (by assumption))))⟩
          case round =>
            obtain ⟨rfl, rfl, rfl, gr⟩ := hrel
            go_wp2_with fail
            refine (known_any _).mono ?_
            rintro x w6 ⟨rfl, hG6⟩
            have g6 : G w5 w6 := gr.trans (G.trans (by (repeat' (first | (with_reducible exact G.refl _) | (with_reducible refine G.drewN ?_ _) | (with_reducible refine G.drew ?_) | (with_reducible refine G.alloc ?_ _)))) hG6)
            go_wp2_with fail
            refine (numbers_nil _).mono ?_
            rintro x w7 ⟨rfl, hG7⟩
            have g7 : G w5 w7 := g6.trans (G.trans (by (repeat' (first | (with_reducible exact G.refl _) | (with_reducible refine G.drewN ?_ _) | (with_reducible refine G.drew ?_) | (with_reducible refine G.alloc ?_ _)))) hG7)
            go_wp2_with fail
            go_ret
            exact ⟨by first | rfl | simp, g1.trans (g4.trans (g45.trans (g7.trans (by (repeat' (first | (with_reducible exact G.refl _) | (with_reducible assumption) | (with_reducible refine G.drewN ?_ _) | (with_reducible refine G.drew ?_) | (with_reducible refine G.alloc ?_ _) | (with_reducible refine G.setCell ?_ (by first | (with_reducible exact Nat.le_refl _) | (simp; done) | (simp; omega) | omega) _) | (with_reducible refine G.trans ?_ (by assumption))))))))⟩
  · by_cases k130 : (r0.length : Int) ≤ 130
    · have H1 := Lib.hid (h1.take 20)
      have HC := Lib.hid ((cb_of hwf).take 20)
      have HN := Lib.hid (show (l0.take 20).length = 20 by rw [List.length_take]; omega)
      have HK := Lib.hid (show 20 ≤ 20 from Nat.le_refl _)
      have m3 : (20 : Int) ≤ (c : Int) := by omega
      have m4 : 20 ≤ c := by omega
      generalize l0.take 20 = l at *
      clear h1 hwf hc
      have H2 := Lib.hid h2
      have HM2 := Lib.hid (show r0.length ≤ 1000 by omega)
      have u3 : (r0.length : Int) ≤ (d : Int) := by omega
      have u5 : r0.length ≤ d := by omega
      generalize r0 = r at *
      obtain ⟨m, hm⟩ : ∃ z : Nat, Hid (r.length = z) := ⟨_, rfl⟩
      rw [hm.out] at HM2 k130 u3 u5 ⊢
      clear h2 hd
      have HM := hm
      clear hm
      go_enter Try.func6, Try.ntmps6
      go_wp2_with fail
      go_big_region
      all_goals
        go_wp2_with fail
        refine (tLengths_any a b l r 20 c m d _ HN.out HM.out HM2.out (H1.out.later (by (repeat' (first | (with_reducible exact G.refl _) | (with_reducible assumption) | (with_reducible refine G.drewN ?_ _) | (with_reducible refine G.drew ?_) | (with_reducible refine G.alloc ?_ _) | (with_reducible refine G.setCell ?_ (by first | (with_reducible exact Nat.le_refl _) | (simp; done) | (simp; omega) | omega) _) | (with_reducible refine G.trans ?_ (by assumption)))))) HC.out (H2.out.later (by (repeat' (first | (with_reducible exact G.refl _) | (with_reducible assumption) | (with_reducible refine G.drewN ?_ _) | (with_reducible refine G.drew ?_) | (with_reducible refine G.alloc ?_ _) | (with_reducible refine G.setCell ?_ (by first | (with_reducible exact Nat.le_refl _) | (simp; done) | (simp; omega) | omega) _) | (with_reducible refine G.trans ?_ (by assumption))))))).mono ?_
        rintro e w1 ⟨v, rfl, hR, hG⟩
        have g1 : G w w1 := G.trans (by (repeat' (first | (with_reducible exact G.refl _) | (with_reducible refine G.drewN ?_ _) | (with_reducible refine G.drew ?_) | (with_reducible refine G.alloc ?_ _)))) hG
        have HQ1 := Lib.hid hR.q
        clear hR
        obtain ⟨E, hE⟩ : ∃ z : Int, Hid (lensT l r = z) := ⟨_, rfl⟩
        rw [hE.out]
        go_wp2_with fail
        refine (to_any a l 20 c _ HN.out HK.out (H1.out.later (g1.trans (by (repeat' (first | (with_reducible exact G.refl _) | (with_reducible assumption) | (with_reducible refine G.drewN ?_ _) | (with_reducible refine G.drew ?_) | (with_reducible refine G.alloc ?_ _) | (with_reducible refine G.setCell ?_ (by first | (with_reducible exact Nat.le_refl _) | (simp; done) | (simp; omega) | omega) _) | (with_reducible refine G.trans ?_ (by assumption)))))))).mono ?_
        rintro x w3 ⟨v2, rfl, hR, hG3⟩
        have g3 : G w1 w3 := G.trans (by (repeat' (first | (with_reducible exact G.refl _) | (with_reducible refine G.drewN ?_ _) | (with_reducible refine G.drew ?_) | (with_reducible refine G.alloc ?_ _)))) hG3
        obtain ⟨a2, c2, rfl, hT2⟩ := hR.tus
        rw [HN.out]
        have H3 := Lib.hid hT2
        clear hR hT2
        go_wp2_with fail
        refine (rLengths_any a2 b l r 20 c2 m d _ HN.out HM.out HM2.out (H3.out.later (by (repeat' (first | (with_reducible exact G.refl _) | (with_reducible assumption) | (with_reducible refine G.drewN ?_ _) | (with_reducible refine G.drew ?_) | (with_reducible refine G.alloc ?_ _) | (with_reducible refine G.setCell ?_ (by first | (with_reducible exact Nat.le_refl _) | (simp; done) | (simp; omega) | omega) _) | (with_reducible refine G.trans ?_ (by assumption)))))) (H2.out.later (g1.trans (g3.trans (by (repeat' (first | (with_reducible exact G.refl _) | (with_reducible assumption) | (with_reducible refine G.drewN ?_ _) | (with_reducible refine G.drew ?_) | (with_reducible refine G.alloc ?_ _) | (with_reducible refine G.setCell ?_ (by first | (with_reducible exact Nat.le_refl _) | (simp; done) | (simp; omega) | omega) _) | (with_reducible refine G.trans ?_ (by assumption))))))))).mono ?_
        rintro e w4 ⟨v4, rfl, hQ4, hG4⟩
        have g4 : G w1 w4 := g3.trans (G.trans (by (repeat' (first | (with_reducible exact G.refl _) | (with_reducible refine G.drewN ?_ _) | (with_reducible refine G.drew ?_) | (with_reducible refine G.alloc ?_ _)))) hG4)
        have HQ4 := Lib.hid hQ4
        clear hQ4
        rw [hE.out]
        go_wp2_with fail
        refine (tSum_any a b l r 20 c m d _ HN.out HM.out HM2.out (H1.out.later (g1.trans (g4.trans (by (repeat' (first | (with_reducible exact G.refl _) | (with_reducible assumption) | (with_reducible refine G.drewN ?_ _) | (with_reducible refine G.drew ?_) | (with_reducible refine G.alloc ?_ _) | (with_reducible refine G.setCell ?_ (by first | (with_reducible exact Nat.le_refl _) | (simp; done) | (simp; omega) | omega) _) | (with_reducible refine G.trans ?_ (by assumption)))))))) HC.out (H2.out.later (g1.trans (g4.trans (by (repeat' (first | (with_reducible exact G.refl _) | (with_reducible assumption) | (with_reducible refine G.drewN ?_ _) | (with_reducible refine G.drew ?_) | (with_reducible refine G.alloc ?_ _) | (with_reducible refine G.setCell ?_ (by first | (with_reducible exact Nat.le_refl _) | (simp; done) | (simp; omega) | omega) _) | (with_reducible refine G.trans ?_ (by assumption))))))))).mono ?_
        rintro e w5 ⟨rfl, hG5⟩
        have g45 : G w4 w5 := G.trans (by (repeat' (first | (with_reducible exact G.refl _) | (with_reducible refine G.drewN ?_ _) | (with_reducible refine G.drew ?_) | (with_reducible refine G.alloc ?_ _)))) hG5
        rw [hE.out]
        obtain ⟨S, hS⟩ : ∃ z : Int, Hid (z = sumT l r) := ⟨_, rfl⟩
        rw [← hS.out]
        by_cases hk : lensT l r = 0
        · have HS := Lib.hid (show S = sm (lens l 0 r) by rw [hS.out]; exact if_pos hk)
          have hA := HQ1.out
          have hB := HQ4.out
          have HF : Fit l := by
            unfold lensT at hk
            by_cases h : ckT r.length l = 0
            · exact ckT_fit h
            · rw [if_neg h] at hk; exact absurd hk h
          have HBD := Lib.hid (lens_bd HF r 0)
          unfold LensQ at hA hB
          rw [if_pos hk] at hA hB
          obtain ⟨pa, pc, rfl, hIA⟩ := hA
          obtain ⟨pb, pd, rfl, hIB⟩ := hB
          have HLL := Lib.hid (show (lens l 0 r).length = m by rw [lens_len]; exact HM.out)
          obtain ⟨M, hM⟩ : ∃ z, Hid (z = lens l 0 r) := ⟨_, rfl⟩
          rw [← hM.out] at HLL HBD HS hIA hIB
          have HIA := Lib.hid (hIA.later (g4.trans g45))
          have HIB := Lib.hid (hIB.later g45)
          rw [HM.out]
          clear hIA hIB hk HF HQ1 HQ4
          go_wp2_with fail
          go_loopg [11, 12] m (fun q x y wr => ∃ i : Nat, x = .int .i64 (sm (M.take i)) ∧ y = .int .i64 i ∧ q = m - i ∧ i ≤ m ∧ G w5 wr)
          case atStart => exact ⟨0, by simp [sm], rfl, by omega, by omega, by (repeat' (first | (with_reducible exact G.refl _) | (with_reducible assumption) | (with_reducible refine G.drewN ?_ _) | (with_reducible refine G.drew ?_) | (with_reducible refine G.alloc ?_ _) | (with_reducible refine G.setCell ?_ (by first | (with_reducible exact Nat.le_refl _) | (simp; done) | (simp; omega) | omega) _) | (with_reducible refine G.trans ?_ (by assumption))))⟩
          case round =>
            obtain ⟨i, rfl, rfl, hq, hi, gr⟩ := hrel
            have HQ := Lib.hid hq
            clear hq
            by_cases hin : i < m
            · obtain ⟨x, hx⟩ : ∃ z, M[i]? = some z := ⟨M[i]'(by have := HLL.out; omega), List.getElem?_eq_getElem (by have := HLL.out; omega)⟩
              rcases HIB.out with hz | ⟨b0, of, rfl, fc⟩
              · rw [hz] at hx; simp at hx
              have x0 := gr.at (fc i _ hx)
              have s1 := sm_bd HBD.out (i + 1) (by have := HLL.out; omega)
              rw [sm_next hx] at s1
              have HSN := Lib.hid (sm_next hx)
              obtain ⟨Y, hY⟩ : ∃ z : Int, Hid (sm (M.take i) = z) := ⟨_, rfl⟩
              rw [hY.out] at s1 HSN ⊢
              have b1 : (0 : Int) ≤ (i : Int) := by omega
              have b2 : (i : Int) < (m : Int) := by omega
              have q1 := IntWalk.i64_in ((i : Int) + 1) (by have := HM2.out; omega)
              have q2 := IntWalk.i64_in (Y + x) (by have := HM2.out; omega)
              clear fc hx s1
              go_wp2_with fail
              go_roundg (m - (i + 1))
              case measure => have := HQ.out; omega
              case rel => exact ⟨i + 1, by rw [HSN.out]; first | done | rfl | go_num, by go_num, rfl, by omega, by (repeat' (first | (with_reducible exact G.refl _) | (with_reducible assumption) | (with_reducible refine G.drewN ?_ _) | (with_reducible refine G.drew ?_) | (with_reducible refine G.alloc ?_ _) | (with_reducible refine G.setCell ?_ (by first | (with_reducible exact Nat.le_refl _) | (simp; done) | (simp; omega) | omega) _) | (with_reducible refine G.trans ?_ (by assumption))))⟩
            · have hii : i = m := by omega
              have HSS := Lib.hid (show sm (M.take i) = S by rw [HS.out, List.take_of_length_le (by have := HLL.out; omega)])
              subst hii
              rw [HSS.out]
              go_wp2_with fail
              refine (known_any _).mono ?_
              rintro x w6 ⟨rfl, hG6⟩
              have g6 : G w5 w6 := gr.trans (G.trans (by (repeat' (first | (with_reducible exact G.refl _) | (with_reducible refine G.drewN ?_ _) | (with_reducible refine G.drew ?_) | (with_reducible refine G.alloc ?_ _)))) hG6)
              go_wp2_with fail
              refine (numbers_same _ _ M _ _ _ _ HLL.out HM2.out (HIA.out.later (g6.trans (by (repeat' (first | (with_reducible exact G.refl _) | (with_reducible assumption) | (with_reducible refine G.drewN ?_ _) | (with_reducible refine G.drew ?_) | (with_reducible refine G.alloc ?_ _) | (with_reducible refine G.setCell ?_ (by first | (with_reducible exact Nat.le_refl _) | (simp; done) | (simp; omega) | omega) _) | (with_reducible refine G.trans ?_ (by assumption))))))) (HIB.out.later (g6.trans (by (repeat' (first | (with_reducible exact G.refl _) | (with_reducible assumption) | (with_reducible refine G.drewN ?_ _) | (with_reducible refine G.drew ?_) | (with_reducible refine G.alloc ?_ _) | (with_reducible refine G.setCell ?_ (by first | (with_reducible exact Nat.le_refl _) | (simp; done) | (simp; omega) | omega) _) | (with_reducible refine G.trans ?_ (by assumption)))))))).mono ?_
              rintro x w7 ⟨rfl, hG7⟩
              have g7 : G w5 w7 := g6.trans (G.trans (by (repeat' (first | (with_reducible exact G.refl _) | (with_reducible refine G.drewN ?_ _) | (with_reducible refine G.drew ?_) | (with_reducible refine G.alloc ?_ _)))) hG7)
              go_wp2_with fail
              go_ret
              exact ⟨by first | rfl | simp, g1.trans (g4.trans (g45.trans (g7.trans (by (repeat' (first | (with_reducible exact G.refl _) | (with_reducible assumption) | (with_reducible refine G.drewN ?_ _) | (with_reducible refine G.drew ?_) | (with_reducible refine G.alloc ?_ _) | (with_reducible refine G.setCell ?_ (by first | (with_reducible exact Nat.le_refl _) | (simp; done) | (simp; omega) | omega) _) | (with_reducible refine G.trans ?_ (by assumption))))))))⟩
        · have HS := Lib.hid (show S = 0 by rw [hS.out]; exact if_neg hk)
          have hA := HQ1.out
          have hB := HQ4.out
          unfold LensQ at hA hB
          rw [if_neg hk] at hA hB
          subst hA hB
          rw [HS.out]
          clear hk HQ1 HQ4
          go_wp2_with fail
          go_loopg [11, 12] 0 (fun q x y wr => x = .int .i64 0 ∧ y = .int .i64 0 ∧ q = 0 ∧ G w5 wr)
          case atStart => exact ⟨rfl, rfl, rfl, by (repeat' (first | (with_reducible exact G.refl _) | (with_reducible assumption) | (with_reducible refine G.drewN ?_ _) | (with_reducible refine G.drew ?_) | (with_reducible refine G.alloc ?_ _) | (with_reducible refine G.setCell ?_ (by first | (with_reducible exact Nat.le_refl _) | (simp; done) | (simp; omega) | omega) _) | (with_reducible refine G.trans ?_ (by assumption))))⟩
          case round =>
            obtain ⟨rfl, rfl, rfl, gr⟩ := hrel
            go_wp2_with fail
            refine (known_any _).mono ?_
            rintro x w6 ⟨rfl, hG6⟩
            have g6 : G w5 w6 := gr.trans (G.trans (by (repeat' (first | (with_reducible exact G.refl _) | (with_reducible refine G.drewN ?_ _) | (with_reducible refine G.drew ?_) | (with_reducible refine G.alloc ?_ _)))) hG6)
            go_wp2_with fail
            refine (numbers_nil _).mono ?_
            rintro x w7 ⟨rfl, hG7⟩
            have g7 : G w5 w7 := g6.trans (G.trans (by (repeat' (first | (with_reducible exact G.refl _) | (with_reducible refine G.drewN ?_ _) | (with_reducible refine G.drew ?_) | (with_reducible refine G.alloc ?_ _)))) hG7)
            go_wp2_with fail
            go_ret
            exact ⟨by first | rfl | simp, g1.trans (g4.trans (g45.trans (g7.trans (by (repeat' (first | (with_reducible exact G.refl _) | (with_reducible assumption) | (with_reducible refine G.drewN ?_ _) | (with_reducible refine G.drew ?_) | (with_reducible refine G.alloc ?_ _) | (with_reducible refine G.setCell ?_ (by first | (with_reducible exact Nat.le_refl _) | (simp; done) | (simp; omega) | omega) _) | (with_reducible refine G.trans ?_ (by assumption))))))))⟩
    · have H1 := Lib.hid (h1.take 20)
      have HC := Lib.hid ((cb_of hwf).take 20)
      have HN := Lib.hid (show (l0.take 20).length = 20 by rw [List.length_take]; omega)
      have HK := Lib.hid (show 20 ≤ 20 from Nat.le_refl _)
      have m3 : (20 : Int) ≤ (c : Int) := by omega
      have m4 : 20 ≤ c := by omega
      generalize l0.take 20 = l at *
      clear h1 hwf hc
      have H2 := Lib.hid (h2.take 130)
      have HM := Lib.hid (show (r0.take 130).length = 130 by rw [List.length_take]; omega)
      have HM2 := Lib.hid (show 130 ≤ 1000 by omega)
      have u3 : (130 : Int) ≤ (d : Int) := by omega
      have u4 : 130 ≤ d := by omega
      generalize r0.take 130 = r at *
      clear h2 hd
      go_enter Try.func6, Try.ntmps6
      go_wp2_with fail
      go_big_region
      all_goals
        go_wp2_with fail
        refine (tLengths_any a b l r 20 c 130 d _ HN.out HM.out HM2.out (H1.out.later (by (repeat' (first | (with_reducible exact G.refl _) | (with_reducible assumption) | (with_reducible refine G.drewN ?_ _) | (with_reducible refine G.drew ?_) | (with_reducible refine G.alloc ?_ _) | (with_reducible refine G.setCell ?_ (by first | (with_reducible exact Nat.le_refl _) | (simp; done) | (simp; omega) | omega) _) | (with_reducible refine G.trans ?_ (by assumption)))))) HC.out (H2.out.later (by (repeat' (first | (with_reducible exact G.refl _) | (with_reducible assumption) | (with_reducible refine G.drewN ?_ _) | (with_reducible refine G.drew ?_) | (with_reducible refine G.alloc ?_ _) | (with_reducible refine G.setCell ?_ (by first | (with_reducible exact Nat.le_refl _) | (simp; done) | (simp; omega) | omega) _) | (with_reducible refine G.trans ?_ (by assumption))))))).mono ?_
        rintro e w1 ⟨v, rfl, hR, hG⟩
        have g1 : G w w1 := G.trans (by (repeat' (first | (with_reducible exact G.refl _) | (with_reducible refine G.drewN ?_ _) | (with_reducible refine G.drew ?_) | (with_reducible refine G.alloc ?_ _)))) hG
        have HQ1 := Lib.hid hR.q
        clear hR
        obtain ⟨E, hE⟩ : ∃ z : Int, Hid (lensT l r = z) := ⟨_, rfl⟩
        rw [hE.out]
        go_wp2_with fail
        refine (to_any a l 20 c _ HN.out HK.out (H1.out.later (g1.trans (by (repeat' (first | (with_reducible exact G.refl _) | (with_reducible assumption) | (with_reducible refine G.drewN ?_ _) | (with_reducible refine G.drew ?_) | (with_reducible refine G.alloc ?_ _) | (with_reducible refine G.setCell ?_ (by first | (with_reducible exact Nat.le_refl _) | (simp; done) | (simp; omega) | omega) _) | (with_reducible refine G.trans ?_ (by assumption)))))))).mono ?_
        rintro x w3 ⟨v2, rfl, hR, hG3⟩
        have g3 : G w1 w3 := G.trans (by (repeat' (first | (with_reducible exact G.refl _) | (with_reducible refine G.drewN ?_ _) | (with_reducible refine G.drew ?_) | (with_reducible refine G.alloc ?_ _)))) hG3
        obtain ⟨a2, c2, rfl, hT2⟩ := hR.tus
        rw [HN.out]
        have H3 := Lib.hid hT2
        clear hR hT2
        go_wp2_with fail
        refine (rLengths_any a2 b l r 20 c2 130 d _ HN.out HM.out HM2.out (H3.out.later (by (repeat' (first | (with_reducible exact G.refl _) | (with_reducible assumption) | (with_reducible refine G.drewN ?_ _) | (with_reducible refine G.drew ?_) | (with_reducible refine G.alloc ?_ _) | (with_reducible refine G.setCell ?_ (by first | (with_reducible exact Nat.le_refl _) | (simp; done) | (simp; omega) | omega) _) | (with_reducible refine G.trans ?_ (by assumption)))))) (H2.out.later (g1.trans (g3.trans (by (repeat' (first | (with_reducible exact G.refl _) | (with_reducible assumption) | (with_reducible refine G.drewN ?_ _) | (with_reducible refine G.drew ?_) | (with_reducible refine G.alloc ?_ _) | (with_reducible refine G.setCell ?_ (by first | (with_reducible exact Nat.le_refl _) | (simp; done) | (simp; omega) | omega) _) | (with_reducible refine G.trans ?_ (by assumption))))))))).mono ?_
        rintro e w4 ⟨v4, rfl, hQ4, hG4⟩
        have g4 : G w1 w4 := g3.trans (G.trans (by (repeat' (first | (with_reducible exact G.refl _) | (with_reducible refine G.drewN ?_ _) | (with_reducible refine G.drew ?_) | (with_reducible refine G.alloc ?_ _)))) hG4)
        have HQ4 := Lib.hid hQ4
        clear hQ4
        rw [hE.out]
        go_wp2_with fail
        refine (tSum_any a b l r 20 c 130 d _ HN.out HM.out HM2.out (H1.out.later (g1.trans (g4.trans (by (repeat' (first | (with_reducible exact G.refl _) | (with_reducible assumption) | (with_reducible refine G.drewN ?_ _) | (with_reducible refine G.drew ?_) | (with_reducible refine G.alloc ?_ _) | (with_reducible refine G.setCell ?_ (by first | (with_reducible exact Nat.le_refl _) | (simp; done) | (simp; omega) | omega) _) | (with_reducible refine G.trans ?_ (by assumption)))))))) HC.out (H2.out.later (g1.trans (g4.trans (by (repeat' (first | (with_reducible exact G.refl _) | (with_reducible assumption) | (with_reducible refine G.drewN ?_ _) | (with_reducible refine G.drew ?_) | (with_reducible refine G.alloc ?_ _) | (with_reducible refine G.setCell ?_ (by first | (with_reducible exact Nat.le_refl _) | (simp; done) | (simp; omega) | omega) _) | (with_reducible refine G.trans ?_ (by assumption))))))))).mono ?_
        rintro e w5 ⟨rfl, hG5⟩
        have g45 : G w4 w5 := G.trans (by (repeat' (first | (with_reducible exact G.refl _) | (with_reducible refine G.drewN ?_ _) | (with_reducible refine G.drew ?_) | (with_reducible refine G.alloc ?_ _)))) hG5
        rw [hE.out]
        obtain ⟨S, hS⟩ : ∃ z : Int, Hid (z = sumT l r) := ⟨_, rfl⟩
        rw [← hS.out]
        by_cases hk : lensT l r = 0
        · have HS := Lib.hid (show S = sm (lens l 0 r) by rw [hS.out]; exact if_pos hk)
          have hA := HQ1.out
          have hB := HQ4.out
          have HF : Fit l := by
            unfold lensT at hk
            by_cases h : ckT r.length l = 0
            · exact ckT_fit h
            · rw [if_neg h] at hk; exact absurd hk h
          have HBD := Lib.hid (lens_bd HF r 0)
          unfold LensQ at hA hB
          rw [if_pos hk] at hA hB
          obtain ⟨pa, pc, rfl, hIA⟩ := hA
          obtain ⟨pb, pd, rfl, hIB⟩ := hB
          have HLL := Lib.hid (show (lens l 0 r).length = 130 by rw [lens_len]; exact HM.out)
          obtain ⟨M, hM⟩ : ∃ z, Hid (z = lens l 0 r) := ⟨_, rfl⟩
          rw [← hM.out] at HLL HBD HS hIA hIB
          have HIA := Lib.hid (hIA.later (g4.trans g45))
          have HIB := Lib.hid (hIB.later g45)
          rw [HM.out]
          clear hIA hIB hk HF HQ1 HQ4
          go_wp2_with fail
          go_loopg [11, 12] 130 (fun q x y wr => ∃ i : Nat, x = .int .i64 (sm (M.take i)) ∧ y = .int .i64 i ∧ q = 130 - i ∧ i ≤ 130 ∧ G w5 wr)
          case atStart => exact ⟨0, by simp [sm], rfl, by omega, by omega, by (repeat' (first | (with_reducible exact G.refl _) | (with_reducible assumption) | (with_reducible refine G.drewN ?_ _) | (with_reducible refine G.drew ?_) | (with_reducible refine G.alloc ?_ _) | (with_reducible refine G.setCell ?_ (by first | (with_reducible exact Nat.le_refl _) | (simp; done) | (simp; omega) | omega) _) | (with_reducible refine G.trans ?_ (by assumption))))⟩
          case round =>
            obtain ⟨i, rfl, rfl, hq, hi, gr⟩ := hrel
            have HQ := Lib.hid hq
            clear hq
            by_cases hin : i < 130
            · obtain ⟨x, hx⟩ : ∃ z, M[i]? = some z := ⟨M[i]'(by have := HLL.out; omega), List.getElem?_eq_getElem (by have := HLL.out; omega)⟩
              rcases HIB.out with hz | ⟨b0, of, rfl, fc⟩
              · rw [hz] at hx; simp at hx
              have x0 := gr.at (fc i _ hx)
              have s1 := sm_bd HBD.out (i + 1) (by have := HLL.out; omega)
              rw [sm_next hx] at s1
              have HSN := Lib.hid (sm_next hx)
              obtain ⟨Y, hY⟩ : ∃ z : Int, Hid (sm (M.take i) = z) := ⟨_, rfl⟩
              rw [hY.out] at s1 HSN ⊢
              have b1 : (0 : Int) ≤ (i : Int) := by omega
              have b2 : (i : Int) < (130 : Int) := by omega
              have q1 := IntWalk.i64_in ((i : Int) + 1) (by have := HM2.out; omega)
              have q2 := IntWalk.i64_in (Y + x) (by have := HM2.out; omega)
              clear fc hx s1
              go_wp2_with fail
              go_roundg (130 - (i + 1))
              case measure => have := HQ.out; omega
              case rel => exact ⟨i + 1, by rw [HSN.out]; first | done | rfl | go_num, by go_num, rfl, by omega, by (repeat' (first | (with_reducible exact G.refl _) | (with_reducible assumption) | (with_reducible refine G.drewN ?_ _) | (with_reducible refine G.drew ?_) | (with_reducible refine G.alloc ?_ _) | (with_reducible refine G.setCell ?_ (by first | (with_reducible exact Nat.le_refl _) | (simp; done) | (simp; omega) | omega) _) | (with_reducible refine G.trans ?_ (by assumption))))⟩
            · have hii : i = 130 := by omega
              have HSS := Lib.hid (show sm (M.take i) = S by rw [HS.out, List.take_of_length_le (by have := HLL.out; omega)])
              subst hii
              rw [HSS.out]
              go_wp2_with fail
              refine (known_any _).mono ?_
              rintro x w6 ⟨rfl, hG6⟩
              have g6 : G w5 w6 := gr.trans (G.trans (by (repeat' (first | (with_reducible exact G.refl _) | (with_reducible refine G.drewN ?_ _) | (with_reducible refine G.drew ?_) | (with_reducible refine G.alloc ?_ _)))) hG6)
              go_wp2_with fail
              refine (numbers_same _ _ M _ _ _ _ HLL.out HM2.out (HIA.out.later (g6.trans (by (repeat' (first | (with_reducible exact G.refl _) | (with_reducible assumption) | (with_reducible refine G.drewN ?_ _) | (with_reducible refine G.drew ?_) | (with_reducible refine G.alloc ?_ _) | (with_reducible refine G.setCell ?_ (by first | (with_reducible exact Nat.le_refl _) | (simp; done) | (simp; omega) | omega) _) | (with_reducible refine G.trans ?_ (by assumption))))))) (HIB.out.later (g6.trans (by (repeat' (first | (with_reducible exact G.refl _) | (with_reducible assumption) | (with_reducible refine G.drewN ?_ _) | (with_reducible refine G.drew ?_) | (with_reducible refine G.alloc ?_ _) | (with_reducible refine G.setCell ?_ (by first | (with_reducible exact Nat.le_refl _) | (simp; done) | (simp; omega) | omega) _) | (with_reducible refine G.trans ?_ (by assumption)))))))).mono ?_
              rintro x w7 ⟨rfl, hG7⟩
              have g7 : G w5 w7 := g6.trans (G.trans (by (repeat' (first | (with_reducible exact G.refl _) | (with_reducible refine G.drewN ?_ _) | (with_reducible refine G.drew ?_) | (with_reducible refine G.alloc ?_ _)))) hG7)
              go_wp2_with fail
              go_ret
              exact ⟨by first | rfl | simp, g1.trans (g4.trans (g45.trans (g7.trans (by (repeat' (first | (with_reducible exact G.refl _) | (with_reducible assumption) | (with_reducible refine G.drewN ?_ _) | (with_reducible refine G.drew ?_) | (with_reducible refine G.alloc ?_ _) | (with_reducible refine G.setCell ?_ (by first | (with_reducible exact Nat.le_refl _) | (simp; done) | (simp; omega) | omega) _) | (with_reducible refine G.trans ?_ (by assumption))))))))⟩
        · have HS := Lib.hid (show S = 0 by rw [hS.out]; exact if_neg hk)
          have hA := HQ1.out
          have hB := HQ4.out
          unfold LensQ at hA hB
          rw [if_neg hk] at hA hB
          subst hA hB
          rw [HS.out]
          clear hk HQ1 HQ4
          go_wp2_with fail
          go_loopg [11, 12] 0 (fun q x y wr => x = .int .i64 0 ∧ y = .int .i64 0 ∧ q = 0 ∧ G w5 wr)
          case atStart => exact ⟨rfl, rfl, rfl, by (repeat' (first | (with_reducible exact G.refl _) | (with_reducible assumption) | (with_reducible refine G.drewN ?_ _) | (with_reducible refine G.drew ?_) | (with_reducible refine G.alloc ?_ _) | (with_reducible refine G.setCell ?_ (by first | (with_reducible exact Nat.le_refl _) | (simp; done) | (simp; omega) | omega) _) | (with_reducible refine G.trans ?_ (by assumption))))⟩
          case round =>
            obtain ⟨rfl, rfl, rfl, gr⟩ := hrel
            go_wp2_with fail
            refine (known_any _).mono ?_
            rintro x w6 ⟨rfl, hG6⟩
            have g6 : G w5 w6 := gr.trans (G.trans (by (repeat' (first | (with_reducible exact G.refl _) | (with_reducible refine G.drewN ?_ _) | (with_reducible refine G.drew ?_) | (with_reducible refine G.alloc ?_ _)))) hG6)
            go_wp2_with fail
            refine (numbers_nil _).mono ?_
            rintro x w7 ⟨rfl, hG7⟩
            have g7 : G w5 w7 := g6.trans (G.trans (by (repeat' (first | (with_reducible exact G.refl _) | (with_reducible refine G.drewN ?_ _) | (with_reducible refine G.drew ?_) | (with_reducible refine G.alloc ?_ _)))) hG7)
            go_wp2_with fail
            go_ret
            exact ⟨by first | rfl | simp, g1.trans (g4.trans (g45.trans (g7.trans (by (repeat' (first | (with_reducible exact G.refl _) | (with_reducible assumption) | (with_reducible refine G.drewN ?_ _) | (with_reducible refine G.drew ?_) | (with_reducible refine G.alloc ?_ _) | (with_reducible refine G.setCell ?_ (by first | (with_reducible exact Nat.le_refl _) | (simp; done) | (simp; omega) | omega) _) | (with_reducible refine G.trans ?_ (by assumption))))))))⟩

/-! ### the row and the card -/
open Go.ChangeShapes Go.WideShapes Go.ChangeAt Go.RowKit
set_option maxRecDepth 100000 in
theorem tupletLengths_lifted (os : Os) (started : os.Started) (H : Type) (enc : TypeId × Value → H) :
    ReturnsInHanded {} Try.checked os 6 .any (Rows.tupletLengthsSpec.pre6 enc Try.prog Try.f6 Rows.tupletLengthsRow.domain false)
      (Rows.tupletLengthsSpec.post enc Try.prog Try.f6 false true false false) := by
  refine returnsInHanded_of_change (C := Try.checked) own started (by kernel_rfl) Try.func6
    (ChangeSpec.witness6 (enc := enc) (C := Try.checked) false ⟨#[], #[.slice none 0 0, .slice none 0 0], []⟩ 8 (by kernel_rfl) (by kernel_rfl) (by kernel_rfl) (by kernel_rfl)) ?_
  intro W base args ds gs before hval0 hW _ _
  have hval : ∀ (j : Nat) t v, Try.f6.params[j]? = some t → args[j]? = some v → Value.okWide Try.prog W .any base t v := hval0
  have hW' := hW
  obtain ⟨p, q, hA0, hV, rfl, hfz, hnd⟩ := hW
  have hA : DataW.TrodAll enc Try.prog W 0 (fun _ => true) true Try.f6.params.toList args.toList ds p := hA0
  rw [Try.params6] at hA hval
  obtain ⟨v0, vs0, d0, ds0, p0, q0, hargs, rfl, rfl, h0, r0⟩ := trodAll_cons hA
  obtain ⟨v1, vs1, d1, ds1, p1, q1, rfl, rfl, rfl, h1, r1⟩ := trodAll_cons r0
  obtain ⟨rfl, rfl, rfl⟩ := trodAll_nil r1
  obtain rfl : args = #[v0, v1] := by cases args; simp_all
  obtain ⟨rfl, rfl⟩ := trodVars_none hV
  have keep0 := h0
  obtain ⟨a0, cap0, l0, rfl, lc0, mc0, la0, wf0, lz0⟩ := open_tusArg (hval 0 22 v0 rfl rfl) h0
  have keep1 := h1
  obtain ⟨a1, cap1, l1, rfl, lc1, mc1, la1, wf1, lz1⟩ := open_intsArg (hval 1 40 v1 rfl rfl) h1
  clear hA0 hval0
  simp only [List.append_nil] at hW'
  have hlt0 : ∀ x ∈ p0, x.block < W.heap.size := fun x hx => by have := hW'.lt x (by simp [hx]); simpa using this
  have hlt1 : ∀ x ∈ p1, x.block < W.heap.size := fun x hx => by have := hW'.lt x (by simp [hx]); simpa using this
  refine (lengths_walk a0 l0 cap0 a1 l1 cap1 W lc0 mc0 la0 lz0 wf0 lc1 mc1 la1 lz1  ).mono fun e W' ⟨he, hg⟩ => ?_
  subst he
  exact ⟨_, rfl, _, _, _, [], (p0 ++ (p1 ++ [])), [], hW', (trodAll_cons_mk (shut_bool Try.underlying4 _) trodAll_mk0), (trodAll_cons_mk (Below.trod (by kernel_rfl) (by kernel_rfl) (of_decide_eq_true (by kernel_rfl)) keep0 hg hlt0) (trodAll_cons_mk (Below.trod (by kernel_rfl) (by kernel_rfl) (of_decide_eq_true (by kernel_rfl)) keep1 hg hlt1) trodAll_mk0)), rfl, Below.frame hg _, fun h => by cases h⟩

theorem tupletLengths_holds : Rows.TupletLengthsSaid :=
  OpenClaim.holds_of_wide 6 Try.f6 rfl rfl rfl rfl rfl rfl rfl ⟨rfl, rfl, rfl, rfl, rfl⟩ rfl rfl rfl rfl rfl (by kernel_rfl) Try.func6 (by kernel_rfl)
    (of_decide_eq_true (by kernel_rfl)) (by unfold Func.isWrapper; first | (rw [if_pos (by decide +kernel)]; kernel_rfl) | (rw [if_neg (by decide +kernel)]; exact ⟨rfl, rfl⟩))
    (fun os started H enc _ => tupletLengths_lifted os started H enc)

#print axioms tupletLengths_holds
end Go.Proofs.Ytabaiklagobimaa
