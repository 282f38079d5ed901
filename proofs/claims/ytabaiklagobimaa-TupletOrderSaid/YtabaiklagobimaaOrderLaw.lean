/- TupletOrder: for any up to 20 tuplets, Canonical returns them in the order of the definition, and Equal compares lists; the arguments read as before; no further condition. -/
import Derived.Test.YtabaiklagobimaaRows
import Derived.Test.YtabaiklagobimaaT18
import Derived.Test.YtabaiklagobimaaT17
import Derived.Test.YtabaiklagobimaaT8
import Derived.Test.YtabaiklagobimaaLaid
namespace Go.Proofs.Ytabaiklagobimaa
open Go.RowKit Go.ChangeShapes Go.WideShapes
attribute [local go_sem] World.cell?_alloc_some

set_option maxRecDepth 100000 in
set_option maxHeartbeats 25600000 in
theorem order_walk (a : Option Addr) (l0 : List Tu) (c : Nat) (b : Option Addr) (m0 : List Tu) (d : Nat) (w : World) (hc : l0.length ≤ c) (_ : c ≤ maxLen) (h1 : TusAt w a l0) (hz : a = none → c = 0) (_ : ∀ n ∈ l0, (Lit.int .i64 n.c).wf = true) (hd : m0.length ≤ d) (_ : d ≤ maxLen) (h2 : TusAt w b m0) (_ : b = none → d = 0) (_ : ∀ n ∈ m0, (Lit.int .i64 n.c).wf = true) :
    Calls Try.prog 4 #[.slice a l0.length c, .slice b m0.length d] w fun x w' => x = .returned (.bool true) ∧ G w w' := by
  have HZ := Lib.hid hz
  clear hz
  by_cases k20 : (l0.length : Int) ≤ 20
  · by_cases m20 : (m0.length : Int) ≤ 20
    · have H1 := Lib.hid h1
      have HK := Lib.hid (show l0.length ≤ 20 by omega)
      have mm3 : (l0.length : Int) ≤ (c : Int) := by omega
      have mm5 : l0.length ≤ c := by omega
      generalize l0 = l at *
      obtain ⟨n, hn⟩ : ∃ z : Nat, Hid (l.length = z) := ⟨_, rfl⟩
      rw [hn.out] at HK k20 mm3 mm5 ⊢
      clear h1 hc
      have HN := hn
      clear hn
      have H2 := Lib.hid h2
      have HMK := Lib.hid (show m0.length ≤ 20 by omega)
      have uu3 : (m0.length : Int) ≤ (d : Int) := by omega
      have uu5 : m0.length ≤ d := by omega
      generalize m0 = m at *
      obtain ⟨k, hk⟩ : ∃ z : Nat, Hid (m.length = z) := ⟨_, rfl⟩
      rw [hk.out] at HMK m20 uu3 uu5 ⊢
      clear h2 hd
      have HM := hk
      clear hk
      have HSL := Lib.hid (show (sortT l).length = n by rw [sort_len]; exact HN.out)
      go_enter Try.func4, Try.ntmps4
      go_wp2_with fail
      go_big_region
      all_goals
        go_wp2_with fail
        refine (Canonical_any a l n c _ HN.out HK.out (H1.out.later (by (repeat' (first | (with_reducible exact G.refl _) | (with_reducible assumption) | (with_reducible refine G.drewN ?_ _) | (with_reducible refine G.drew ?_) | (with_reducible refine G.alloc ?_ _) | (with_reducible refine G.setCell ?_ (by first | (with_reducible exact Nat.le_refl _) | (simp; done) | (simp; omega) | omega) _) | (with_reducible refine G.trans ?_ (by assumption)))))) HZ.out).mono ?_
        rintro e w1 ⟨p, cap, rfl, hT1, hG1⟩
        have g1 : G w w1 := G.trans (by (repeat' (first | (with_reducible exact G.refl _) | (with_reducible refine G.drewN ?_ _) | (with_reducible refine G.drew ?_) | (with_reducible refine G.alloc ?_ _)))) hG1
        have HT1 := Lib.hid hT1
        clear hT1
        go_wp2_with fail
        refine (known_any _).mono ?_
        rintro e w2 ⟨rfl, hG2⟩
        have g2 : G w1 w2 := G.trans (by (repeat' (first | (with_reducible exact G.refl _) | (with_reducible refine G.drewN ?_ _) | (with_reducible refine G.drew ?_) | (with_reducible refine G.alloc ?_ _)))) hG2
        go_wp2_with fail
        refine (to_any a l n c _ HN.out HK.out (H1.out.later (g1.trans (g2.trans (by (repeat' (first | (with_reducible exact G.refl _) | (with_reducible assumption) | (with_reducible refine G.drewN ?_ _) | (with_reducible refine G.drew ?_) | (with_reducible refine G.alloc ?_ _) | (with_reducible refine G.setCell ?_ (by first | (with_reducible exact Nat.le_refl _) | (simp; done) | (simp; omega) | omega) _) | (with_reducible refine G.trans ?_ (by assumption))))))))).mono ?_
        rintro e w3 ⟨v3, rfl, hR3, hG3⟩
        have g3 : G w1 w3 := g2.trans (G.trans (by (repeat' (first | (with_reducible exact G.refl _) | (with_reducible refine G.drewN ?_ _) | (with_reducible refine G.drew ?_) | (with_reducible refine G.alloc ?_ _)))) hG3)
        obtain ⟨a3, c3, rfl, hT3⟩ := hR3.tus
        rw [HN.out]
        have H3 := Lib.hid hT3
        clear hR3 hT3
        go_wp2_with fail
        refine (rSort_any a3 l n c3 _ HN.out HK.out (H3.out.later (by (repeat' (first | (with_reducible exact G.refl _) | (with_reducible assumption) | (with_reducible refine G.drewN ?_ _) | (with_reducible refine G.drew ?_) | (with_reducible refine G.alloc ?_ _) | (with_reducible refine G.setCell ?_ (by first | (with_reducible exact Nat.le_refl _) | (simp; done) | (simp; omega) | omega) _) | (with_reducible refine G.trans ?_ (by assumption))))))).mono ?_
        rintro e w4 ⟨v4, rfl, hR4, hG4⟩
        have g4 : G w1 w4 := g3.trans (G.trans (by (repeat' (first | (with_reducible exact G.refl _) | (with_reducible refine G.drewN ?_ _) | (with_reducible refine G.drew ?_) | (with_reducible refine G.alloc ?_ _)))) hG4)
        obtain ⟨a4, c4, rfl, hT4⟩ := hR4.tus
        rw [HSL.out]
        have H4 := Lib.hid hT4
        clear hR4 hT4
        go_wp2_with fail
        refine (same_same p a4 _ n cap c4 _ HSL.out (by have := HK.out; omega) (HT1.out.later (g4.trans (by (repeat' (first | (with_reducible exact G.refl _) | (with_reducible assumption) | (with_reducible refine G.drewN ?_ _) | (with_reducible refine G.drew ?_) | (with_reducible refine G.alloc ?_ _) | (with_reducible refine G.setCell ?_ (by first | (with_reducible exact Nat.le_refl _) | (simp; done) | (simp; omega) | omega) _) | (with_reducible refine G.trans ?_ (by assumption))))))) (H4.out.later (by (repeat' (first | (with_reducible exact G.refl _) | (with_reducible assumption) | (with_reducible refine G.drewN ?_ _) | (with_reducible refine G.drew ?_) | (with_reducible refine G.alloc ?_ _) | (with_reducible refine G.setCell ?_ (by first | (with_reducible exact Nat.le_refl _) | (simp; done) | (simp; omega) | omega) _) | (with_reducible refine G.trans ?_ (by assumption))))))).mono ?_
        rintro e w5 ⟨rfl, hG5⟩
        have g5 : G w1 w5 := g4.trans (G.trans (by (repeat' (first | (with_reducible exact G.refl _) | (with_reducible refine G.drewN ?_ _) | (with_reducible refine G.drew ?_) | (with_reducible refine G.alloc ?_ _)))) hG5)
        go_wp2_with fail
        refine (tEqual_any a b l m n k c d _ HN.out HM.out (by have := HK.out; omega) (H1.out.later (g1.trans (g5.trans (by (repeat' (first | (with_reducible exact G.refl _) | (with_reducible assumption) | (with_reducible refine G.drewN ?_ _) | (with_reducible refine G.drew ?_) | (with_reducible refine G.alloc ?_ _) | (with_reducible refine G.setCell ?_ (by first | (with_reducible exact Nat.le_refl _) | (simp; done) | (simp; omega) | omega) _) | (with_reducible refine G.trans ?_ (by assumption)))))))) (H2.out.later (g1.trans (g5.trans (by (repeat' (first | (with_reducible exact G.refl _) | (with_reducible assumption) | (with_reducible refine G.drewN ?_ _) | (with_reducible refine G.drew ?_) | (with_reducible refine G.alloc ?_ _) | (with_reducible refine G.setCell ?_ (by first | (with_reducible exact Nat.le_refl _) | (simp; done) | (simp; omega) | omega) _) | (with_reducible refine G.trans ?_ (by assumption))))))))).mono ?_
        rintro e w6 ⟨rfl, hG6⟩
        have g6 : G w1 w6 := g5.trans (G.trans (by (repeat' (first | (with_reducible exact G.refl _) | (with_reducible refine G.drewN ?_ _) | (with_reducible refine G.drew ?_) | (with_reducible refine G.alloc ?_ _)))) hG6)
        obtain ⟨R, hR⟩ : ∃ z : Bool, Hid (decide (l = m) = z) := ⟨_, rfl⟩
        rw [hR.out]
        go_wp2_with fail
        refine (to_any b m k d _ HM.out HMK.out (H2.out.later (g1.trans (g6.trans (by (repeat' (first | (with_reducible exact G.refl _) | (with_reducible assumption) | (with_reducible refine G.drewN ?_ _) | (with_reducible refine G.drew ?_) | (with_reducible refine G.alloc ?_ _) | (with_reducible refine G.setCell ?_ (by first | (with_reducible exact Nat.le_refl _) | (simp; done) | (simp; omega) | omega) _) | (with_reducible refine G.trans ?_ (by assumption))))))))).mono ?_
        rintro e w7 ⟨v7, rfl, hR7, hG7⟩
        have g67 : G w6 w7 := G.trans (by (repeat' (first | (with_reducible exact G.refl _) | (with_reducible refine G.drewN ?_ _) | (with_reducible refine G.drew ?_) | (with_reducible refine G.alloc ?_ _)))) hG7
        obtain ⟨a7, c7, rfl, hT7⟩ := hR7.tus
        rw [HM.out]
        have H7 := Lib.hid hT7
        clear hR7 hT7
        go_wp2_with fail
        refine (same_any a a7 l m n k c c7 _ HN.out HM.out (by have := HK.out; omega) (H1.out.later (g1.trans (g6.trans (g67.trans (by (repeat' (first | (with_reducible exact G.refl _) | (with_reducible assumption) | (with_reducible refine G.drewN ?_ _) | (with_reducible refine G.drew ?_) | (with_reducible refine G.alloc ?_ _) | (with_reducible refine G.setCell ?_ (by first | (with_reducible exact Nat.le_refl _) | (simp; done) | (simp; omega) | omega) _) | (with_reducible refine G.trans ?_ (by assumption))))))))) (H7.out.later (by (repeat' (first | (with_reducible exact G.refl _) | (with_reducible assumption) | (with_reducible refine G.drewN ?_ _) | (with_reducible refine G.drew ?_) | (with_reducible refine G.alloc ?_ _) | (with_reducible refine G.setCell ?_ (by first | (with_reducible exact Nat.le_refl _) | (simp; done) | (simp; omega) | omega) _) | (with_reducible refine G.trans ?_ (by assumption))))))).mono ?_
        rintro e w8 ⟨rfl, hG8⟩
        have g8 : G w6 w8 := g67.trans (G.trans (by (repeat' (first | (with_reducible exact G.refl _) | (with_reducible refine G.drewN ?_ _) | (with_reducible refine G.drew ?_) | (with_reducible refine G.alloc ?_ _)))) hG8)
        rw [hR.out]
        go_wp2_with fail
        refine (tEqual_any p p _ _ n n cap cap _ HSL.out HSL.out (by have := HK.out; omega) (HT1.out.later (g6.trans (g8.trans (by (repeat' (first | (with_reducible exact G.refl _) | (with_reducible assumption) | (with_reducible refine G.drewN ?_ _) | (with_reducible refine G.drew ?_) | (with_reducible refine G.alloc ?_ _) | (with_reducible refine G.setCell ?_ (by first | (with_reducible exact Nat.le_refl _) | (simp; done) | (simp; omega) | omega) _) | (with_reducible refine G.trans ?_ (by assumption)))))))) (HT1.out.later (g6.trans (g8.trans (by (repeat' (first | (with_reducible exact G.refl _) | (with_reducible assumption) | (with_reducible refine G.drewN ?_ _) | (with_reducible refine G.drew ?_) | (with_reducible refine G.alloc ?_ _) | (with_reducible refine G.setCell ?_ (by first | (with_reducible exact Nat.le_refl _) | (simp; done) | (simp; omega) | omega) _) | (with_reducible refine G.trans ?_ (by assumption))))))))).mono ?_
        rintro e w9 ⟨rfl, hG9⟩
        have g9 : G w6 w9 := g8.trans (G.trans (by (repeat' (first | (with_reducible exact G.refl _) | (with_reducible refine G.drewN ?_ _) | (with_reducible refine G.drew ?_) | (with_reducible refine G.alloc ?_ _)))) hG9)
        rw [decide_eq_true (show sortT l = sortT l from rfl)]
        cases hRR : R
        all_goals
          by_cases n0 : n = 0
          · subst n0
            go_wp2_with fail
            go_ret
            exact ⟨by first | rfl | simp, g1.trans (g6.trans (g9.trans (by (repeat' (first | (with_reducible exact G.refl _) | (with_reducible assumption) | (with_reducible refine G.drewN ?_ _) | (with_reducible refine G.drew ?_) | (with_reducible refine G.alloc ?_ _) | (with_reducible refine G.setCell ?_ (by first | (with_reducible exact Nat.le_refl _) | (simp; done) | (simp; omega) | omega) _) | (with_reducible refine G.trans ?_ (by assumption)))))))⟩
          · have n1 : ¬ ((n : Int) = 0) := by omega
            have n2 : ((n : Int) == 0) = false := beq_false_of_ne n1
            have n3 : (n == 0) = false := beq_false_of_ne n0
            have n4 : (1 : Int) ≤ (n : Int) := by omega
            have n5 : 1 ≤ n := by omega
            have n6 : 1 ≤ c := by omega
            have n7 : (1 : Int) ≤ (c : Int) := by omega
            go_wp2_with fail
            all_goals
              refine (tEqual_len _ _ _ _ _ _ _ (by omega)).mono ?_
              rintro e w10 ⟨rfl, hG10⟩
              have g10 : G w6 w10 := g9.trans (G.trans (by (repeat' (first | (with_reducible exact G.refl _) | (with_reducible refine G.drewN ?_ _) | (with_reducible refine G.drew ?_) | (with_reducible refine G.alloc ?_ _)))) hG10)
              go_wp2_with fail
              go_ret
              exact ⟨by first | rfl | simp, g1.trans (g6.trans (g10.trans (by (repeat' (first | (with_reducible exact G.refl _) | (with_reducible assumption) | (with_reducible refine G.drewN ?_ _) | (with_reducible refine G.drew ?_) | (with_reducible refine G.alloc ?_ _) | (with_reducible refine G.setCell ?_ (by first | (with_reducible exact Nat.le_refl _) | (simp; done) | (simp; omega) | omega) _) | (with_reducible refine G.trans ?_ (by assumption)))))))⟩
    · have H1 := Lib.hid h1
      have HK := Lib.hid (show l0.length ≤ 20 by omega)
      have mm3 : (l0.length : Int) ≤ (c : Int) := by omega
      have mm5 : l0.length ≤ c := by omega
      generalize l0 = l at *
      obtain ⟨n, hn⟩ : ∃ z : Nat, Hid (l.length = z) := ⟨_, rfl⟩
      rw [hn.out] at HK k20 mm3 mm5 ⊢
      clear h1 hc
      have HN := hn
      clear hn
      have H2 := Lib.hid (h2.take 20)
      have HM := Lib.hid (show (m0.take 20).length = 20 by rw [List.length_take]; omega)
      have HMK := Lib.hid (show 20 ≤ 20 from Nat.le_refl _)
      have uu3 : (20 : Int) ≤ (d : Int) := by omega
      have uu4 : 20 ≤ d := by omega
      generalize m0.take 20 = m at *
      clear h2 hd
      have HSL := Lib.hid (show (sortT l).length = n by rw [sort_len]; exact HN.out)
      go_enter Try.func4, Try.ntmps4
      go_wp2_with fail
      go_big_region
      all_goals
        go_wp2_with fail
        refine (Canonical_any a l n c _ HN.out HK.out (H1.out.later (by (repeat' (first | (with_reducible exact G.refl _) | (with_reducible assumption) | (with_reducible refine G.drewN ?_ _) | (with_reducible refine G.drew ?_) | (with_reducible refine G.alloc ?_ _) | (with_reducible refine G.setCell ?_ (by first | (with_reducible exact Nat.le_refl _) | (simp; done) | (simp; omega) | omega) _) | (with_reducible refine G.trans ?_ (by assumption)))))) HZ.out).mono ?_
        rintro e w1 ⟨p, cap, rfl, hT1, hG1⟩
        have g1 : G w w1 := G.trans (by (repeat' (first | (with_reducible exact G.refl _) | (with_reducible refine G.drewN ?_ _) | (with_reducible refine G.drew ?_) | (with_reducible refine G.alloc ?_ _)))) hG1
        have HT1 := Lib.hid hT1
        clear hT1
        go_wp2_with fail
        refine (known_any _).mono ?_
        rintro e w2 ⟨rfl, hG2⟩
        have g2 : G w1 w2 := G.trans (by (repeat' (first | (with_reducible exact G.refl _) | (with_reducible refine G.drewN ?_ _) | (with_reducible refine G.drew ?_) | (with_reducible refine G.alloc ?_ _)))) hG2
        go_wp2_with fail
        refine (to_any a l n c _ HN.out HK.out (H1.out.later (g1.trans (g2.trans (by (repeat' (first | (with_reducible exact G.refl _) | (with_reducible assumption) | (with_reducible refine G.drewN ?_ _) | (with_reducible refine G.drew ?_) | (with_reducible refine G.alloc ?_ _) | (with_reducible refine G.setCell ?_ (by first | (with_reducible exact Nat.le_refl _) | (simp; done) | (simp; omega) | omega) _) | (with_reducible refine G.trans ?_ (by assumption))))))))).mono ?_
        rintro e w3 ⟨v3, rfl, hR3, hG3⟩
        have g3 : G w1 w3 := g2.trans (G.trans (by (repeat' (first | (with_reducible exact G.refl _) | (with_reducible refine G.drewN ?_ _) | (with_reducible refine G.drew ?_) | (with_reducible refine G.alloc ?_ _)))) hG3)
        obtain ⟨a3, c3, rfl, hT3⟩ := hR3.tus
        rw [HN.out]
        have H3 := Lib.hid hT3
        clear hR3 hT3
        go_wp2_with fail
        refine (rSort_any a3 l n c3 _ HN.out HK.out (H3.out.later (by (repeat' (first | (with_reducible exact G.refl _) | (with_reducible assumption) | (with_reducible refine G.drewN ?_ _) | (with_reducible refine G.drew ?_) | (with_reducible refine G.alloc ?_ _) | (with_reducible refine G.setCell ?_ (by first | (with_reducible exact Nat.le_refl _) | (simp; done) | (simp; omega) | omega) _) | (with_reducible refine G.trans ?_ (by assumption))))))).mono ?_
        rintro e w4 ⟨v4, rfl, hR4, hG4⟩
        have g4 : G w1 w4 := g3.trans (G.trans (by (repeat' (first | (with_reducible exact G.refl _) | (with_reducible refine G.drewN ?_ _) | (with_reducible refine G.drew ?_) | (with_reducible refine G.alloc ?_ _)))) hG4)
        obtain ⟨a4, c4, rfl, hT4⟩ := hR4.tus
        rw [HSL.out]
        have H4 := Lib.hid hT4
        clear hR4 hT4
        go_wp2_with fail
        refine (same_same p a4 _ n cap c4 _ HSL.out (by have := HK.out; omega) (HT1.out.later (g4.trans (by (repeat' (first | (with_reducible exact G.refl _) | (with_reducible assumption) | (with_reducible refine G.drewN ?_ _) | (with_reducible refine G.drew ?_) | (with_reducible refine G.alloc ?_ _) | (with_reducible refine G.setCell ?_ (by first | (with_reducible exact Nat.le_refl _) | (simp; done) | (simp; omega) | omega) _) | (with_reducible refine G.trans ?_ (by assumption))))))) (H4.out.later (by (repeat' (first | (with_reducible exact G.refl _) | (with_reducible assumption) | (with_reducible refine G.drewN ?_ _) | (with_reducible refine G.drew ?_) | (with_reducible refine G.alloc ?_ _) | (with_reducible refine G.setCell ?_ (by first | (with_reducible exact Nat.le_refl _) | (simp; done) | (simp; omega) | omega) _) | (with_reducible refine G.trans ?_ (by assumption))))))).mono ?_
        rintro e w5 ⟨rfl, hG5⟩
        have g5 : G w1 w5 := g4.trans (G.trans (by (repeat' (first | (with_reducible exact G.refl _) | (with_reducible refine G.drewN ?_ _) | (with_reducible refine G.drew ?_) | (with_reducible refine G.alloc ?_ _)))) hG5)
        go_wp2_with fail
        refine (tEqual_any a b l m n 20 c d _ HN.out HM.out (by have := HK.out; omega) (H1.out.later (g1.trans (g5.trans (by (repeat' (first | (with_reducible exact G.refl _) | (with_reducible assumption) | (with_reducible refine G.drewN ?_ _) | (with_reducible refine G.drew ?_) | (with_reducible refine G.alloc ?_ _) | (with_reducible refine G.setCell ?_ (by first | (with_reducible exact Nat.le_refl _) | (simp; done) | (simp; omega) | omega) _) | (with_reducible refine G.trans ?_ (by assumption)))))))) (H2.out.later (g1.trans (g5.trans (by (repeat' (first | (with_reducible exact G.refl _) | (with_reducible assumption) | (with_reducible refine G.drewN ?_ _) | (with_reducible refine G.drew ?_) | (with_reducible refine G.alloc ?_ _) | (with_reducible refine G.setCell ?_ (by first | (with_reducible exact Nat.le_refl _) | (simp; done) | (simp; omega) | omega) _) | (with_reducible refine G.trans ?_ (by assumption))))))))).mono ?_
        rintro e w6 ⟨rfl, hG6⟩
        have g6 : G w1 w6 := g5.trans (G.trans (by (repeat' (first | (with_reducible exact G.refl _) | (with_reducible refine G.drewN ?_ _) | (with_reducible refine G.drew ?_) | (with_reducible refine G.alloc ?_ _)))) hG6)
        obtain ⟨R, hR⟩ : ∃ z : Bool, Hid (decide (l = m) = z) := ⟨_, rfl⟩
        rw [hR.out]
        go_wp2_with fail
        refine (to_any b m 20 d _ HM.out HMK.out (H2.out.later (g1.trans (g6.trans (by (repeat' (first | (with_reducible exact G.refl _) | (with_reducible assumption) | (with_reducible refine G.drewN ?_ _) | (with_reducible refine G.drew ?_) | (with_reducible refine G.alloc ?_ _) | (with_reducible refine G.setCell ?_ (by first | (with_reducible exact Nat.le_refl _) | (simp; done) | (simp; omega) | omega) _) | (with_reducible refine G.trans ?_ (by assumption))))))))).mono ?_
        rintro e w7 ⟨v7, rfl, hR7, hG7⟩
        have g67 : G w6 w7 := G.trans (by (repeat' (first | (with_reducible exact G.refl _) | (with_reducible refine G.drewN ?_ _) | (with_reducible refine G.drew ?_) | (with_reducible refine G.alloc ?_ _)))) hG7
        obtain ⟨a7, c7, rfl, hT7⟩ := hR7.tus
        rw [HM.out]
        have H7 := Lib.hid hT7
        clear hR7 hT7
        go_wp2_with fail
        refine (same_any a a7 l m n 20 c c7 _ HN.out HM.out (by have := HK.out; omega) (H1.out.later (g1.trans (g6.trans (g67.trans (by (repeat' (first | (with_reducible exact G.refl _) | (with_reducible assumption) | (with_reducible refine G.drewN ?_ _) | (with_reducible refine G.drew ?_) | (with_reducible refine G.alloc ?_ _) | (with_reducible refine G.setCell ?_ (by first | (with_reducible exact Nat.le_refl _) | (simp; done) | (simp; omega) | omega) _) | (with_reducible refine G.trans ?_ (by assumption))))))))) (H7.out.later (by (repeat' (first | (with_reducible exact G.refl _) | (with_reducible assumption) | (with_reducible refine G.drewN ?_ _) | (with_reducible refine G.drew ?_) | (with_reducible refine G.alloc ?_ _) | (with_reducible refine G.setCell ?_ (by first | (with_reducible exact Nat.le_refl _) | (simp; done) | (simp; omega) | omega) _) | (with_reducible refine G.trans ?_ (by assumption))))))).mono ?_
        rintro e w8 ⟨rfl, hG8⟩
        have g8 : G w6 w8 := g67.trans (G.trans (by (repeat' (first | (with_reducible exact G.refl _) | (with_reducible refine G.drewN ?_ _) | (with_reducible refine G.drew ?_) | (with_reducible refine G.alloc ?_ _)))) hG8)
        rw [hR.out]
        go_wp2_with fail
        refine (tEqual_any p p _ _ n n cap cap _ HSL.out HSL.out (by have := HK.out; omega) (HT1.out.later (g6.trans (g8.trans (by (repeat' (first | (with_reducible exact G.refl _) | (with_reducible assumption) | (with_reducible refine G.drewN ?_ _) | (with_reducible refine G.drew ?_) | (with_reducible refine G.alloc ?_ _) | (with_reducible refine G.setCell ?_ (by first | (with_reducible exact Nat.le_refl _) | (simp; done) | (simp; omega) | omega) _) | (with_reducible refine G.trans ?_ (by assumption)))))))) (HT1.out.later (g6.trans (g8.trans (by (repeat' (first | (with_reducible exact G.refl _) | (with_reducible assumption) | (with_reducible refine G.drewN ?_ _) | (with_reducible refine G.drew ?_) | (with_reducible refine G.alloc ?_ _) | (with_reducible refine G.setCell ?_ (by first | (with_reducible exact Nat.le_refl _) | (simp; done) | (simp; omega) | omega) _) | (with_reducible refine G.trans ?_ (by assumption))))))))).mono ?_
        rintro e w9 ⟨rfl, hG9⟩
        have g9 : G w6 w9 := g8.trans (G.trans (by (repeat' (first | (with_reducible exact G.refl _) | (with_reducible refine G.drewN ?_ _) | (with_reducible refine G.drew ?_) | (with_reducible refine G.alloc ?_ _)))) hG9)
        rw [decide_eq_true (show sortT l = sortT l from rfl)]
        cases hRR : R
        all_goals
          by_cases n0 : n = 0
          · subst n0
            go_wp2_with fail
            go_ret
            exact ⟨by first | rfl | simp, g1.trans (g6.trans (g9.trans (by (repeat' (first | (with_reducible exact G.refl _) | (with_reducible assumption) | (with_reducible refine G.drewN ?_ _) | (with_reducible refine G.drew ?_) | (with_reducible refine G.alloc ?_ _) | (with_reducible refine G.setCell ?_ (by first | (with_reducible exact Nat.le_refl _) | (simp; done) | (simp; omega) | omega) _) | (with_reducible refine G.trans ?_ (by assumption)))))))⟩
          · have n1 : ¬ ((n : Int) = 0) := by omega
            have n2 : ((n : Int) == 0) = false := beq_false_of_ne n1
            have n3 : (n == 0) = false := beq_false_of_ne n0
            have n4 : (1 : Int) ≤ (n : Int) := by omega
            have n5 : 1 ≤ n := by omega
            have n6 : 1 ≤ c := by omega
            have n7 : (1 : Int) ≤ (c : Int) := by omega
            go_wp2_with fail
            all_goals
              refine (tEqual_len _ _ _ _ _ _ _ (by omega)).mono ?_
              rintro e w10 ⟨rfl, hG10⟩
              have g10 : G w6 w10 := g9.trans (G.trans (by (repeat' (first | (with_reducible exact G.refl _) | (with_reducible refine G.drewN ?_ _) | (with_reducible refine G.drew ?_) | (with_reducible refine G.alloc ?_ _)))) hG10)
              go_wp2_with fail
              go_ret
              exact ⟨by first | rfl | simp, g1.trans (g6.trans (g10.trans (by (repeat' (first | (with_reducible exact G.refl _) | (with_reducible assumption) | (with_reducible refine G.drewN ?_ _) | (with_reducible refine G.drew ?_) | (with_reducible refine G.alloc ?_ _) | (with_reducible refine G.setCell ?_ (by first | (with_reducible exact Nat.le_refl _) | (simp; done) | (simp; omega) | omega) _) | (with_reducible refine G.trans ?_ (by assumption)))))))⟩
  · by_cases m20 : (m0.length : Int) ≤ 20
    · have H1 := Lib.hid (h1.take 20)
      have HN := Lib.hid (show (l0.take 20).length = 20 by rw [List.length_take]; omega)
      have HK := Lib.hid (show 20 ≤ 20 from Nat.le_refl _)
      have mm3 : (20 : Int) ≤ (c : Int) := by omega
      have mm4 : 20 ≤ c := by omega
      generalize l0.take 20 = l at *
      clear h1 hc
      have H2 := Lib.hid h2
      have HMK := Lib.hid (show m0.length ≤ 20 by omega)
      have uu3 : (m0.length : Int) ≤ (d : Int) := by omega
      have uu5 : m0.length ≤ d := by omega
      generalize m0 = m at *
      obtain ⟨k, hk⟩ : ∃ z : Nat, Hid (m.length = z) := ⟨_, rfl⟩
      rw [hk.out] at HMK m20 uu3 uu5 ⊢
      clear h2 hd
      have HM := hk
      clear hk
      have HSL := Lib.hid (show (sortT l).length = 20 by rw [sort_len]; exact HN.out)
      go_enter Try.func4, Try.ntmps4
      go_wp2_with fail
      go_big_region
      all_goals
        go_wp2_with fail
        refine (Canonical_any a l 20 c _ HN.out HK.out (H1.out.later (by (repeat' (first | (with_reducible exact G.refl _) | (with_reducible assumption) | (with_reducible refine G.drewN ?_ _) | (with_reducible refine G.drew ?_) | (with_reducible refine G.alloc ?_ _) | (with_reducible refine G.setCell ?_ (by first | (with_reducible exact Nat.le_refl _) | (simp; done) | (simp; omega) | omega) _) | (with_reducible refine G.trans ?_ (by assumption)))))) HZ.out).mono ?_
        rintro e w1 ⟨p, cap, rfl, hT1, hG1⟩
        have g1 : G w w1 := G.trans (by (repeat' (first | (with_reducible exact G.refl _) | (with_reducible refine G.drewN ?_ _) | (with_reducible refine G.drew ?_) | (with_reducible refine G.alloc ?_ _)))) hG1
        have HT1 := Lib.hid hT1
        clear hT1
        go_wp2_with fail
        refine (known_any _).mono ?_
        rintro e w2 ⟨rfl, hG2⟩
        have g2 : G w1 w2 := G.trans (by (repeat' (first | (with_reducible exact G.refl _) | (with_reducible refine G.drewN ?_ _) | (with_reducible refine G.drew ?_) | (with_reducible refine G.alloc ?_ _)))) hG2
        go_wp2_with fail
        refine (to_any a l 20 c _ HN.out HK.out (H1.out.later (g1.trans (g2.trans (by (repeat' (first | (with_reducible exact G.refl _) | (with_reducible assumption) | (with_reducible refine G.drewN ?_ _) | (with_reducible refine G.drew ?_) | (with_reducible refine G.alloc ?_ _) | (with_reducible refine G.setCell ?_ (by first | (with_reducible exact Nat.le_refl _) | (simp; done) | (simp; omega) | omega) _) | (with_reducible refine G.trans ?_ (by assumption))))))))).mono ?_
        rintro e w3 ⟨v3, rfl, hR3, hG3⟩
        have g3 : G w1 w3 := g2.trans (G.trans (by (repeat' (first | (with_reducible exact G.refl _) | (with_reducible refine G.drewN ?_ _) | (with_reducible refine G.drew ?_) | (with_reducible refine G.alloc ?_ _)))) hG3)
        obtain ⟨a3, c3, rfl, hT3⟩ := hR3.tus
        rw [HN.out]
        have H3 := Lib.hid hT3
        clear hR3 hT3
        go_wp2_with fail
        refine (rSort_any a3 l 20 c3 _ HN.out HK.out (H3.out.later (by (repeat' (first | (with_reducible exact G.refl _) | (with_reducible assumption) | (with_reducible refine G.drewN ?_ _) | (with_reducible refine G.drew ?_) | (with_reducible refine G.alloc ?_ _) | (with_reducible refine G.setCell ?_ (by first | (with_reducible exact Nat.le_refl _) | (simp; done) | (simp; omega) | omega) _) | (with_reducible refine G.trans ?_ (by assumption))))))).mono ?_
        rintro e w4 ⟨v4, rfl, hR4, hG4⟩
        have g4 : G w1 w4 := g3.trans (G.trans (by (repeat' (first | (with_reducible exact G.refl _) | (with_reducible refine G.drewN ?_ _) | (with_reducible refine G.drew ?_) | (with_reducible refine G.alloc ?_ _)))) hG4)
        obtain ⟨a4, c4, rfl, hT4⟩ := hR4.tus
        rw [HSL.out]
        have H4 := Lib.hid hT4
        clear hR4 hT4
        go_wp2_with fail
        refine (same_same p a4 _ 20 cap c4 _ HSL.out (by have := HK.out; omega) (HT1.out.later (g4.trans (by (repeat' (first | (with_reducible exact G.refl _) | (with_reducible assumption) | (with_reducible refine G.drewN ?_ _) | (with_reducible refine G.drew ?_) | (with_reducible refine G.alloc ?_ _) | (with_reducible refine G.setCell ?_ (by first | (with_reducible exact Nat.le_refl _) | (simp; done) | (simp; omega) | omega) _) | (with_reducible refine G.trans ?_ (by assumption))))))) (H4.out.later (by (repeat' (first | (with_reducible exact G.refl _) | (with_reducible assumption) | (with_reducible refine G.drewN ?_ _) | (with_reducible refine G.drew ?_) | (with_reducible refine G.alloc ?_ _) | (with_reducible refine G.setCell ?_ (by first | (with_reducible exact Nat.le_refl _) | (simp; done) | (simp; omega) | omega) _) | (with_reducible refine G.trans ?_ (by assumption))))))).mono ?_
        rintro e w5 ⟨rfl, hG5⟩
        have g5 : G w1 w5 := g4.trans (G.trans (by (repeat' (first | (with_reducible exact G.refl _) | (with_reducible refine G.drewN ?_ _) | (with_reducible refine G.drew ?_) | (with_reducible refine G.alloc ?_ _)))) hG5)
        go_wp2_with fail
        refine (tEqual_any a b l m 20 k c d _ HN.out HM.out (by have := HK.out; omega) (H1.out.later (g1.trans (g5.trans (by (repeat' (first | (with_reducible exact G.refl _) | (with_reducible assumption) | (with_reducible refine G.drewN ?_ _) | (with_reducible refine G.drew ?_) | (with_reducible refine G.alloc ?_ _) | (with_reducible refine G.setCell ?_ (by first | (with_reducible exact Nat.le_refl _) | (simp; done) | (simp; omega) | omega) _) | (with_reducible refine G.trans ?_ (by assumption)))))))) (H2.out.later (g1.trans (g5.trans (by (repeat' (first | (with_reducible exact G.refl _) | (with_reducible assumption) | (with_reducible refine G.drewN ?_ _) | (with_reducible refine G.drew ?_) | (with_reducible refine G.alloc ?_ _) | (with_reducible refine G.setCell ?_ (by first | (with_reducible exact Nat.le_refl _) | (simp; done) | (simp; omega) | omega) _) | (with_reducible refine G.trans ?_ (by assumption))))))))).mono ?_
        rintro e w6 ⟨rfl, hG6⟩
        have g6 : G w1 w6 := g5.trans (G.trans (by (repeat' (first | (with_reducible exact G.refl _) | (with_reducible refine G.drewN ?_ _) | (with_reducible refine G.drew ?_) | (with_reducible refine G.alloc ?_ _)))) hG6)
        obtain ⟨R, hR⟩ : ∃ z : Bool, Hid (decide (l = m) = z) := ⟨_, rfl⟩
        rw [hR.out]
        go_wp2_with fail
        refine (to_any b m k d _ HM.out HMK.out (H2.out.later (g1.trans (g6.trans (by (repeat' (first | (with_reducible exact G.refl _) | (with_reducible assumption) | (with_reducible refine G.drewN ?_ _) | (with_reducible refine G.drew ?_) | (with_reducible refine G.alloc ?_ _) | (with_reducible refine G.setCell ?_ (by first | (with_reducible exact Nat.le_refl _) | (simp; done) | (simp; omega) | omega) _) | (with_reducible refine G.trans ?_ (by assumption))))))))).mono ?_
        rintro e w7 ⟨v7, rfl, hR7, hG7⟩
        have g67 : G w6 w7 := G.trans (by (repeat' (first | (with_reducible exact G.refl _) | (with_reducible refine G.drewN ?_ _) | (with_reducible refine G.drew ?_) | (with_reducible refine G.alloc ?_ _)))) hG7
        obtain ⟨a7, c7, rfl, hT7⟩ := hR7.tus
        rw [HM.out]
        have H7 := Lib.hid hT7
        clear hR7 hT7
        go_wp2_with fail
        refine (same_any a a7 l m 20 k c c7 _ HN.out HM.out (by have := HK.out; omega) (H1.out.later (g1.trans (g6.trans (g67.trans (by (repeat' (first | (with_reducible exact G.refl _) | (with_reducible assumption) | (with_reducible refine G.drewN ?_ _) | (with_reducible refine G.drew ?_) | (with_reducible refine G.alloc ?_ _) | (with_reducible refine G.setCell ?_ (by first | (with_reducible exact Nat.le_refl _) | (simp; done) | (simp; omega) | omega) _) | (with_reducible refine G.trans ?_ (by assumption))))))))) (H7.out.later (by (repeat' (first | (with_reducible exact G.refl _) | (with_reducible assumption) | (with_reducible refine G.drewN ?_ _) | (with_reducible refine G.drew ?_) | (with_reducible refine G.alloc ?_ _) | (with_reducible refine G.setCell ?_ (by first | (with_reducible exact Nat.le_refl _) | (simp; done) | (simp; omega) | omega) _) | (with_reducible refine G.trans ?_ (by assumption))))))).mono ?_
        rintro e w8 ⟨rfl, hG8⟩
        have g8 : G w6 w8 := g67.trans (G.trans (by (repeat' (first | (with_reducible exact G.refl _) | (with_reducible refine G.drewN ?_ _) | (with_reducible refine G.drew ?_) | (with_reducible refine G.alloc ?_ _)))) hG8)
        rw [hR.out]
        go_wp2_with fail
        refine (tEqual_any p p _ _ 20 20 cap cap _ HSL.out HSL.out (by have := HK.out; omega) (HT1.out.later (g6.trans (g8.trans (by (repeat' (first | (with_reducible exact G.refl _) | (with_reducible assumption) | (with_reducible refine G.drewN ?_ _) | (with_reducible refine G.drew ?_) | (with_reducible refine G.alloc ?_ _) | (with_reducible refine G.setCell ?_ (by first | (with_reducible exact Nat.le_refl _) | (simp; done) | (simp; omega) | omega) _) | (with_reducible refine G.trans ?_ (by assumption)))))))) (HT1.out.later (g6.trans (g8.trans (by (repeat' (first | (with_reducible exact G.refl _) | (with_reducible assumption) | (with_reducible refine G.drewN ?_ _) | (with_reducible refine G.drew ?_) | (with_reducible refine G.alloc ?_ _) | (with_reducible refine G.setCell ?_ (by first | (with_reducible exact Nat.le_refl _) | (simp; done) | (simp; omega) | omega) _) | (with_reducible refine G.trans ?_ (by assumption))))))))).mono ?_
        rintro e w9 ⟨rfl, hG9⟩
        have g9 : G w6 w9 := g8.trans (G.trans (by (repeat' (first | (with_reducible exact G.refl _) | (with_reducible refine G.drewN ?_ _) | (with_reducible refine G.drew ?_) | (with_reducible refine G.alloc ?_ _)))) hG9)
        rw [decide_eq_true (show sortT l = sortT l from rfl)]
        cases hRR : R
        all_goals
          go_wp2_with fail
          all_goals
            refine (tEqual_len _ _ _ _ _ _ _ (by omega)).mono ?_
            rintro e w10 ⟨rfl, hG10⟩
            have g10 : G w6 w10 := g9.trans (G.trans (by (repeat' (first | (with_reducible exact G.refl _) | (with_reducible refine G.drewN ?_ _) | (with_reducible refine G.drew ?_) | (with_reducible refine G.alloc ?_ _)))) hG10)
            go_wp2_with fail
            go_ret
            exact ⟨by first | rfl | simp, g1.trans (g6.trans (g10.trans (by (repeat' (first | (with_reducible exact G.refl _) | (with_reducible assumption) | (with_reducible refine G.drewN ?_ _) | (with_reducible refine G.drew ?_) | (with_reducible refine G.alloc ?_ _) | (with_reducible refine G.setCell ?_ (by first | (with_reducible exact Nat.le_refl _) | (simp; done) | (simp; omega) | omega) _) | (with_reducible refine G.trans ?_ (by assumption)))))))⟩
    · have H1 := Lib.hid (h1.take 20)
      have HN := Lib.hid (show (l0.take 20).length = 20 by rw [List.length_take]; omega)
      have HK := Lib.hid (show 20 ≤ 20 from Nat.le_refl _)
      have mm3 : (20 : Int) ≤ (c : Int) := by omega
      have mm4 : 20 ≤ c := by omega
      generalize l0.take 20 = l at *
      clear h1 hc
      have H2 := Lib.hid (h2.take 20)
      have HM := Lib.hid (show (m0.take 20).length = 20 by rw [List.length_take]; omega)
      have HMK := Lib.hid (show 20 ≤ 20 from Nat.le_refl _)
      have uu3 : (20 : Int) ≤ (d : Int) := by omega
      have uu4 : 20 ≤ d := by omega
      generalize m0.take 20 = m at *
      clear h2 hd
      have HSL := Lib.hid (show (sortT l).length = 20 by rw [sort_len]; exact HN.out)
      go_enter Try.func4, Try.ntmps4
      go_wp2_with fail
      go_big_region
      all_goals
        go_wp2_with fail
        refine (Canonical_any a l 20 c _ HN.out HK.out (H1.out.later (by (repeat' (first | (with_reducible exact G.refl _) | (with_reducible assumption) | (with_reducible refine G.drewN ?_ _) | (with_reducible refine G.drew ?_) | (with_reducible refine G.alloc ?_ _) | (with_reducible refine G.setCell ?_ (by first | (with_reducible exact Nat.le_refl _) | (simp; done) | (simp; omega) | omega) _) | (with_reducible refine G.trans ?_ (by assumption)))))) HZ.out).mono ?_
        rintro e w1 ⟨p, cap, rfl, hT1, hG1⟩
        have g1 : G w w1 := G.trans (by (repeat' (first | (with_reducible exact G.refl _) | (with_reducible refine G.drewN ?_ _) | (with_reducible refine G.drew ?_) | (with_reducible refine G.alloc ?_ _)))) hG1
        have HT1 := Lib.hid hT1
        clear hT1
        go_wp2_with fail
        refine (known_any _).mono ?_
        rintro e w2 ⟨rfl, hG2⟩
        have g2 : G w1 w2 := G.trans (by (repeat' (first | (with_reducible exact G.refl _) | (with_reducible refine G.drewN ?_ _) | (with_reducible refine G.drew ?_) | (with_reducible refine G.alloc ?_ _)))) hG2
        go_wp2_with fail
        refine (to_any a l 20 c _ HN.out HK.out (H1.out.later (g1.trans (g2.trans (by (repeat' (first | (with_reducible exact G.refl _) | (with_reducible assumption) | (with_reducible refine G.drewN ?_ _) | (with_reducible refine G.drew ?_) | (with_reducible refine G.alloc ?_ _) | (with_reducible refine G.setCell ?_ (by first | (with_reducible exact Nat.le_refl _) | (simp; done) | (simp; omega) | omega) _) | (with_reducible refine G.trans ?_ (by assumption))))))))).mono ?_
        rintro e w3 ⟨v3, rfl, hR3, hG3⟩
        have g3 : G w1 w3 := g2.trans (G.trans (by (repeat' (first | (with_reducible exact G.refl _) | (with_reducible refine G.drewN ?_ _) | (with_reducible refine G.drew ?_) | (with_reducible refine G.alloc ?_ _)))) hG3)
        obtain ⟨a3, c3, rfl, hT3⟩ := hR3.tus
        rw [HN.out]
        have H3 := Lib.hid hT3
        clear hR3 hT3
        go_wp2_with fail
        refine (rSort_any a3 l 20 c3 _ HN.out HK.out (H3.out.later (by (repeat' (first | (with_reducible exact G.refl _) | (with_reducible assumption) | (with_reducible refine G.drewN ?_ _) | (with_reducible refine G.drew ?_) | (with_reducible refine G.alloc ?_ _) | (with_reducible refine G.setCell ?_ (by first | (with_reducible exact Nat.le_refl _) | (simp; done) | (simp; omega) | omega) _) | (with_reducible refine G.trans ?_ (by assumption))))))).mono ?_
        rintro e w4 ⟨v4, rfl, hR4, hG4⟩
        have g4 : G w1 w4 := g3.trans (G.trans (by (repeat' (first | (with_reducible exact G.refl _) | (with_reducible refine G.drewN ?_ _) | (with_reducible refine G.drew ?_) | (with_reducible refine G.alloc ?_ _)))) hG4)
        obtain ⟨a4, c4, rfl, hT4⟩ := hR4.tus
        rw [HSL.out]
        have H4 := Lib.hid hT4
        clear hR4 hT4
        go_wp2_with fail
        refine (same_same p a4 _ 20 cap c4 _ HSL.out (by have := HK.out; omega) (HT1.out.later (g4.trans (by (repeat' (first | (with_reducible exact G.refl _) | (with_reducible assumption) | (with_reducible refine G.drewN ?_ _) | (with_reducible refine G.drew ?_) | (with_reducible refine G.alloc ?_ _) | (with_reducible refine G.setCell ?_ (by first | (with_reducible exact Nat.le_refl _) | (simp; done) | (simp; omega) | omega) _) | (with_reducible refine G.trans ?_ (by assumption))))))) (H4.out.later (by (repeat' (first | (with_reducible exact G.refl _) | (with_reducible assumption) | (with_reducible refine G.drewN ?_ _) | (with_reducible refine G.drew ?_) | (with_reducible refine G.alloc ?_ _) | (with_reducible refine G.setCell ?_ (by first | (with_reducible exact Nat.le_refl _) | (simp; done) | (simp; omega) | omega) _) | (with_reducible refine G.trans ?_ (by assumption))))))).mono ?_
        rintro e w5 ⟨rfl, hG5⟩
        have g5 : G w1 w5 := g4.trans (G.trans (by (repeat' (first | (with_reducible exact G.refl _) | (with_reducible refine G.drewN ?_ _) | (with_reducible refine G.drew ?_) | (with_reducible refine G.alloc ?_ _)))) hG5)
        go_wp2_with fail
        refine (tEqual_any a b l m 20 20 c d _ HN.out HM.out (by have := HK.out; omega) (H1.out.later (g1.trans (g5.trans (by (repeat' (first | (with_reducible exact G.refl _) | (with_reducible assumption) | (with_reducible refine G.drewN ?_ _) | (with_reducible refine G.drew ?_) | (with_reducible refine G.alloc ?_ _) | (with_reducible refine G.setCell ?_ (by first | (with_reducible exact Nat.le_refl _) | (simp; done) | (simp; omega) | omega) _) | (with_reducible refine G.trans ?_ (by assumption)))))))) (H2.out.later (g1.trans (g5.trans (by (repeat' (first | (with_reducible exact G.refl _) | (with_reducible assumption) | (with_reducible refine G.drewN ?_ _) | (with_reducible refine G.drew ?_) | (with_reducible refine G.alloc ?_ _) | (with_reducible refine G.setCell ?_ (by first | (with_reducible exact Nat.le_refl _) | (simp; done) | (simp; omega) | omega) _) | (with_reducible refine G.trans ?_ (by assumption))))))))).mono ?_
        rintro e w6 ⟨rfl, hG6⟩
        have g6 : G w1 w6 := g5.trans (G.trans (by (repeat' (first | (with_reducible exact G.refl _) | (with_reducible refine G.drewN ?_ _) | (with_reducible refine G.drew ?_) | (with_reducible refine G.alloc ?_ _)))) hG6)
        obtain ⟨R, hR⟩ : ∃ z : Bool, Hid (decide (l = m) = z) := ⟨_, rfl⟩
        rw [hR.out]
        go_wp2_with fail
        refine (to_any b m 20 d _ HM.out HMK.out (H2.out.later (g1.trans (g6.trans (by (repeat' (first | (with_reducible exact G.refl _) | (with_reducible assumption) | (with_reducible refine G.drewN ?_ _) | (with_reducible refine G.drew ?_) | (with_reducible refine G.alloc ?_ _) | (with_reducible refine G.setCell ?_ (by first | (with_reducible exact Nat.le_refl _) | (simp; done) | (simp; omega) | omega) _) | (with_reducible refine G.trans ?_ (by assumption))))))))).mono ?_
        rintro e w7 ⟨v7, rfl, hR7, hG7⟩
        have g67 : G w6 w7 := G.trans (by (repeat' (first | (with_reducible exact G.refl _) | (with_reducible refine G.drewN ?_ _) | (with_reducible refine G.drew ?_) | (with_reducible refine G.alloc ?_ _)))) hG7
        obtain ⟨a7, c7, rfl, hT7⟩ := hR7.tus
        rw [HM.out]
        have H7 := Lib.hid hT7
        clear hR7 hT7
        go_wp2_with fail
        refine (same_any a a7 l m 20 20 c c7 _ HN.out HM.out (by have := HK.out; omega) (H1.out.later (g1.trans (g6.trans (g67.trans (by (repeat' (first | (with_reducible exact G.refl _) | (with_reducible assumption) | (with_reducible refine G.drewN ?_ _) | (with_reducible refine G.drew ?_) | (with_reducible refine G.alloc ?_ _) | (with_reducible refine G.setCell ?_ (by first | (with_reducible exact Nat.le_refl _) | (simp; done) | (simp; omega) | omega) _) | (with_reducible refine G.trans ?_ (by assumption))))))))) (H7.out.later (by (repeat' (first | (with_reducible exact G.refl _) | (with_reducible assumption) | (with_reducible refine G.drewN ?_ _) | (with_reducible refine G.drew ?_) | (with_reducible refine G.alloc ?_ _) | (with_reducible refine G.setCell ?_ (by first | (with_reducible exact Nat.le_refl _) | (simp; done) | (simp; omega) | omega) _) | (with_reducible refine G.trans ?_ (by assumption))))))).mono ?_
        rintro e w8 ⟨rfl, hG8⟩
        have g8 : G w6 w8 := g67.trans (G.trans (by (repeat' (first | (with_reducible exact G.refl _) | (with_reducible refine G.drewN ?_ _) | (with_reducible refine G.drew ?_) | (with_reducible refine G.alloc ?_ _)))) hG8)
        rw [hR.out]
        go_wp2_with fail
        refine (tEqual_any p p _ _ 20 20 cap cap _ HSL.out HSL.out (by have := HK.out; omega) (HT1.out.later (g6.trans (g8.trans (by (repeat' (first | (with_reducible exact G.refl _) | (with_reducible assumption) | (with_reducible refine G.drewN ?_ _) | (with_reducible refine G.drew ?_) | (with_reducible refine G.alloc ?_ _) | (with_reducible refine G.setCell ?_ (by first | (with_reducible exact Nat.le_refl _) | (simp; done) | (simp; omega) | omega) _) | (with_reducible refine G.trans ?_ (by assumption)))))))) (HT1.out.later (g6.trans (g8.trans (by (repeat' (first | (with_reducible exact G.refl _) | (with_reducible assumption) | (with_reducible refine G.drewN ?_ _) | (with_reducible refine G.drew ?_) | (with_reducible refine G.alloc ?_ _) | (with_reducible refine G.setCell ?_ (by first | (with_reducible exact Nat.le_refl _) | (simp; done) | (simp; omega) | omega) _) | (with_reducible refine G.trans ?_ (by assumption))))))))).mono ?_
        rintro e w9 ⟨rfl, hG9⟩
        have g9 : G w6 w9 := g8.trans (G.trans (by (repeat' (first | (with_reducible exact G.refl _) | (with_reducible refine G.drewN ?_ _) | (with_reducible refine G.drew ?_) | (with_reducible refine G.alloc ?_ _)))) hG9)
        rw [decide_eq_true (show sortT l = sortT l from rfl)]
        cases hRR : R
        all_goals
          go_wp2_with fail
          all_goals
            refine (tEqual_len _ _ _ _ _ _ _ (by omega)).mono ?_
            rintro e w10 ⟨rfl, hG10⟩
            have g10 : G w6 w10 := g9.trans (G.trans (by (repeat' (first | (with_reducible exact G.refl _) | (with_reducible refine G.drewN ?_ _) | (with_reducible refine G.drew ?_) | (with_reducible refine G.alloc ?_ _)))) hG10)
            go_wp2_with fail
            go_ret
            exact ⟨by first | rfl | simp, g1.trans (g6.trans (g10.trans (by (repeat' (first | (with_reducible exact G.refl _) | (with_reducible assumption) | (with_reducible refine G.drewN ?_ _) | (with_reducible refine G.drew ?_) | (with_reducible refine G.alloc ?_ _) | (with_reducible refine G.setCell ?_ (by first | (with_reducible exact Nat.le_refl _) | (simp; done) | (simp; omega) | omega) _) | (with_reducible refine G.trans ?_ (by assumption)))))))⟩

/-! ### the row and the card -/
open Go.ChangeShapes Go.WideShapes Go.ChangeAt Go.RowKit
set_option maxRecDepth 100000 in
theorem tupletOrder_lifted (os : Os) (started : os.Started) (H : Type) (enc : TypeId × Value → H) :
    ReturnsInHanded {} Try.checked os 4 .any (Rows.tupletOrderSpec.pre6 enc Try.prog Try.f4 Rows.tupletOrderRow.domain false)
      (Rows.tupletOrderSpec.post enc Try.prog Try.f4 false true false false) := by
  refine returnsInHanded_of_change (C := Try.checked) own started (by kernel_rfl) Try.func4
    (ChangeSpec.witness6 (enc := enc) (C := Try.checked) false ⟨#[], #[.slice none 0 0, .slice none 0 0], []⟩ 8 (by kernel_rfl) (by kernel_rfl) (by kernel_rfl) (by kernel_rfl)) ?_
  intro W base args ds gs before hval0 hW _ _
  have hval : ∀ (j : Nat) t v, Try.f4.params[j]? = some t → args[j]? = some v → Value.okWide Try.prog W .any base t v := hval0
  have hW' := hW
  obtain ⟨p, q, hA0, hV, rfl, hfz, hnd⟩ := hW
  have hA : DataW.TrodAll enc Try.prog W 0 (fun _ => true) true Try.f4.params.toList args.toList ds p := hA0
  rw [Try.params4] at hA hval
  obtain ⟨v0, vs0, d0, ds0, p0, q0, hargs, rfl, rfl, h0, r0⟩ := trodAll_cons hA
  obtain ⟨v1, vs1, d1, ds1, p1, q1, rfl, rfl, rfl, h1, r1⟩ := trodAll_cons r0
  obtain ⟨rfl, rfl, rfl⟩ := trodAll_nil r1
  obtain rfl : args = #[v0, v1] := by cases args; simp_all
  obtain ⟨rfl, rfl⟩ := trodVars_none hV
  have keep0 := h0
  obtain ⟨a0, cap0, l0, rfl, lc0, mc0, la0, wf0, lz0⟩ := open_tusArg (hval 0 22 v0 rfl rfl) h0
  have keep1 := h1
  obtain ⟨a1, cap1, l1, rfl, lc1, mc1, la1, wf1, lz1⟩ := open_tusArg (hval 1 22 v1 rfl rfl) h1
  clear hA0 hval0
  simp only [List.append_nil] at hW'
  have hlt0 : ∀ x ∈ p0, x.block < W.heap.size := fun x hx => by have := hW'.lt x (by simp [hx]); simpa using this
  have hlt1 : ∀ x ∈ p1, x.block < W.heap.size := fun x hx => by have := hW'.lt x (by simp [hx]); simpa using this
  refine (order_walk a0 l0 cap0 a1 l1 cap1 W lc0 mc0 la0 lz0 wf0 lc1 mc1 la1 lz1 wf1  ).mono fun e W' ⟨he, hg⟩ => ?_
  subst he
  exact ⟨_, rfl, _, _, _, [], (p0 ++ (p1 ++ [])), [], hW', (trodAll_cons_mk (shut_bool Try.underlying4 _) trodAll_mk0), (trodAll_cons_mk (Below.trod (by kernel_rfl) (by kernel_rfl) (of_decide_eq_true (by kernel_rfl)) keep0 hg hlt0) (trodAll_cons_mk (Below.trod (by kernel_rfl) (by kernel_rfl) (of_decide_eq_true (by kernel_rfl)) keep1 hg hlt1) trodAll_mk0)), rfl, Below.frame hg _, fun h => by cases h⟩

theorem tupletOrder_holds : Rows.TupletOrderSaid :=
  OpenClaim.holds_of_wide 4 Try.f4 rfl rfl rfl rfl rfl rfl rfl ⟨rfl, rfl, rfl, rfl, rfl⟩ rfl rfl rfl rfl rfl (by kernel_rfl) Try.func4 (by kernel_rfl)
    (of_decide_eq_true (by kernel_rfl)) (by unfold Func.isWrapper; first | (rw [if_pos (by decide +kernel)]; kernel_rfl) | (rw [if_neg (by decide +kernel)]; exact ⟨rfl, rfl⟩))
    (fun os started H enc _ => tupletOrder_lifted os started H enc)

#print axioms tupletOrder_holds
end Go.Proofs.Ytabaiklagobimaa
