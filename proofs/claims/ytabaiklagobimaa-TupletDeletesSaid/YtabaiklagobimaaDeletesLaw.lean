/- TupletDeletes: for any up to 20 tuplets, any number of events, and any place and count, Delete agrees with the definition, what it returns passes Check, and deleting what was inserted at a place where no tuplet grows yields the same tuplets; the arguments read as before; no further condition. -/
import Derived.Test.YtabaiklagobimaaRows
import Derived.Test.YtabaiklagobimaaT20
import Derived.Test.YtabaiklagobimaaT18
import Derived.Test.YtabaiklagobimaaT8
import Derived.Test.YtabaiklagobimaaR2
import Derived.Test.YtabaiklagobimaaLaidA
namespace Go.Proofs.Ytabaiklagobimaa
open Go.RowKit Go.ChangeShapes Go.WideShapes
attribute [local go_sem] World.cell?_alloc_some

set_option maxRecDepth 100000 in
set_option maxHeartbeats 25600000 in
theorem deletes_walk (a : Option Addr) (l0 : List Tu) (c : Nat) (ev p q : Int) (w : World) (hc : l0.length ≤ c) (_ : c ≤ maxLen) (h1 : TusAt w a l0) (hz : a = none → c = 0) (hwf : ∀ n ∈ l0, (Lit.int .i64 n.c).wf = true) (_ : -9223372036854775808 ≤ ev) (_ : ev ≤ 9223372036854775807) (_ : -9223372036854775808 ≤ p) (hpb : p ≤ 9223372036854775807) (_ : -9223372036854775808 ≤ q) (_ : q ≤ 9223372036854775807) :
    Calls Try.prog 12 #[.slice a l0.length c, .int .i64 ev, .agg #[.int .i64 p, .int .i64 q]] w fun x w' => x = .returned (.bool true) ∧ G w w' := by
  by_cases k20 : (l0.length : Int) ≤ 20
  · have HZ := Lib.hid hz
    have HPB := Lib.hid hpb
    clear hz
    have H1 := Lib.hid h1
    have HC := Lib.hid (cb_of hwf)
    have HN := Lib.hid (show l0.length = l0.length from rfl)
    have HK := Lib.hid (show l0.length ≤ 20 by omega)
    have m3 : (l0.length : Int) ≤ (c : Int) := by omega
    generalize l0 = l at *
    obtain ⟨n, hn⟩ : ∃ z : Nat, Hid (l.length = z) := ⟨_, rfl⟩
    rw [hn.out] at HK k20 m3 ⊢
    clear HN h1 hwf hc
    have HN := hn
    clear hn
    obtain ⟨E, hE⟩ : ∃ z : Int, Hid (delE l ev p q = z) := ⟨_, rfl⟩
    go_enter Try.func12, Try.ntmps12
    go_wp2_with fail
    refine (to_any a l n c _ HN.out HK.out (H1.out.later (by (repeat' (first | (with_reducible exact G.refl _) | (with_reducible assumption) | (with_reducible refine G.drewN ?_ _) | (with_reducible refine G.drew ?_) | (with_reducible refine G.alloc ?_ _) | (with_reducible refine G.setCell ?_ (by first | (with_reducible exact Nat.le_refl _) | (simp; done) | (simp; omega) | omega) _) | (with_reducible refine G.trans ?_ (by assumption))))))).mono ?_
    rintro r w1 ⟨v, rfl, hR, hG1⟩
    obtain ⟨z0, z1⟩ := two_at rfl hG1
    have g1 : G w w1 := G.trans (by (repeat' (first | (with_reducible exact G.refl _) | (with_reducible refine G.drewN ?_ _) | (with_reducible refine G.drew ?_) | (with_reducible refine G.alloc ?_ _)))) hG1
    obtain ⟨a2, c2, rfl, hT2⟩ := hR.tus
    rw [HN.out]
    have H2 := Lib.hid hT2
    clear hR hT2
    go_wp2_with fail
    go_big_region
    all_goals
      go_wp2_with fail
      refine (tDelete_any a l n c ev p q _ HN.out HK.out (H1.out.later (g1.trans (by (repeat' (first | (with_reducible exact G.refl _) | (with_reducible assumption) | (with_reducible refine G.drewN ?_ _) | (with_reducible refine G.drew ?_) | (with_reducible refine G.alloc ?_ _) | (with_reducible refine G.setCell ?_ (by first | (with_reducible exact Nat.le_refl _) | (simp; done) | (simp; omega) | omega) _) | (with_reducible refine G.trans ?_ (by assumption))))))) HC.out HPB.out).mono ?_
      rintro r w2 ⟨v2, rfl, hDR, hG2⟩
      have g2 : G w1 w2 := G.trans (by (repeat' (first | (with_reducible exact G.refl _) | (with_reducible refine G.drewN ?_ _) | (with_reducible refine G.drew ?_) | (with_reducible refine G.alloc ?_ _)))) hG2
      have HDR := Lib.hid hDR
      clear hDR z0 z1
      rw [hE.out]
      by_cases hE0 : delE l ev p q = 0
      rotate_left
      · have hA := HDR.out
        unfold DelR at hA
        rw [if_neg hE0] at hA
        subst hA
        by_cases hk : ckT ev l = 0
        rotate_left
        · have HE := Lib.hid (show ckT ev l = E by rw [← hE.out]; exact (if_neg hk).symm)
          rw [HE.out] at hk
          have e3 : (E == 0) = false := beq_false_of_ne hk
          have e4 : (E != 0) = true := by simp [bne, e3]
          clear hk hE0
          go_wp2_with fail
          refine (known_any _).mono ?_
          rintro r w3 ⟨rfl, hG3⟩
          have g3 : G w1 w3 := g2.trans (G.trans (by (repeat' (first | (with_reducible exact G.refl _) | (with_reducible refine G.drewN ?_ _) | (with_reducible refine G.drew ?_) | (with_reducible refine G.alloc ?_ _)))) hG3)
          go_wp2_with fail
          refine (rCheck_any a2 l n c2 ev _ HN.out (H2.out.later (g3.trans (by (repeat' (first | (with_reducible exact G.refl _) | (with_reducible assumption) | (with_reducible refine G.drewN ?_ _) | (with_reducible refine G.drew ?_) | (with_reducible refine G.alloc ?_ _) | (with_reducible refine G.setCell ?_ (by first | (with_reducible exact Nat.le_refl _) | (simp; done) | (simp; omega) | omega) _) | (with_reducible refine G.trans ?_ (by assumption)))))))).mono ?_
          rintro r w4 ⟨rfl, hG4⟩
          have g4 : G w1 w4 := g3.trans (G.trans (by (repeat' (first | (with_reducible exact G.refl _) | (with_reducible refine G.drewN ?_ _) | (with_reducible refine G.drew ?_) | (with_reducible refine G.alloc ?_ _)))) hG4)
          rw [HE.out]
          go_wp2_with fail
          go_ret
          exact ⟨by first | rfl | simp, g1.trans (g4.trans (by (repeat' (first | (with_reducible exact G.refl _) | (with_reducible assumption) | (with_reducible refine G.drewN ?_ _) | (with_reducible refine G.drew ?_) | (with_reducible refine G.alloc ?_ _) | (with_reducible refine G.setCell ?_ (by first | (with_reducible exact Nat.le_refl _) | (simp; done) | (simp; omega) | omega) _) | (with_reducible refine G.trans ?_ (by assumption))))))⟩
        have HCK := Lib.hid hk
        have hev := (ckT_ok hk).1
        have HEE := Lib.hid (show delE l ev p q = if 0 ≤ p ∧ 0 ≤ q ∧ q ≤ ev - p then 0 else 2 from if_pos hk)
        have hno : ¬ (0 ≤ p ∧ 0 ≤ q ∧ q ≤ ev - p) := fun h => hE0 (HEE.out.trans (if_pos h))
        have HE2 := Lib.hid (show E = 2 by rw [← hE.out, HEE.out, if_neg hno])
        clear hk hE0
        by_cases k1 : p < 0
        · go_wp2_with fail
          refine (known_any _).mono ?_
          rintro r w3 ⟨rfl, hG3⟩
          have g3 : G w1 w3 := g2.trans (G.trans (by (repeat' (first | (with_reducible exact G.refl _) | (with_reducible refine G.drewN ?_ _) | (with_reducible refine G.drew ?_) | (with_reducible refine G.alloc ?_ _)))) hG3)
          go_wp2_with fail
          refine (rCheck_any a2 l n c2 ev _ HN.out (H2.out.later (g3.trans (by (repeat' (first | (with_reducible exact G.refl _) | (with_reducible assumption) | (with_reducible refine G.drewN ?_ _) | (with_reducible refine G.drew ?_) | (with_reducible refine G.alloc ?_ _) | (with_reducible refine G.setCell ?_ (by first | (with_reducible exact Nat.le_refl _) | (simp; done) | (simp; omega) | omega) _) | (with_reducible refine G.trans ?_ (by assumption)))))))).mono ?_
          rintro r w4 ⟨rfl, hG4⟩
          have g4 : G w1 w4 := g3.trans (G.trans (by (repeat' (first | (with_reducible exact G.refl _) | (with_reducible refine G.drewN ?_ _) | (with_reducible refine G.drew ?_) | (with_reducible refine G.alloc ?_ _)))) hG4)
          rw [HCK.out, HE2.out]
          go_wp2_with fail
          go_ret
          exact ⟨by first | rfl | simp, g1.trans (g4.trans (by (repeat' (first | (with_reducible exact G.refl _) | (with_reducible assumption) | (with_reducible refine G.drewN ?_ _) | (with_reducible refine G.drew ?_) | (with_reducible refine G.alloc ?_ _) | (with_reducible refine G.setCell ?_ (by first | (with_reducible exact Nat.le_refl _) | (simp; done) | (simp; omega) | omega) _) | (with_reducible refine G.trans ?_ (by assumption))))))⟩
        by_cases k2 : q < 0
        · go_wp2_with fail
          refine (known_any _).mono ?_
          rintro r w3 ⟨rfl, hG3⟩
          have g3 : G w1 w3 := g2.trans (G.trans (by (repeat' (first | (with_reducible exact G.refl _) | (with_reducible refine G.drewN ?_ _) | (with_reducible refine G.drew ?_) | (with_reducible refine G.alloc ?_ _)))) hG3)
          go_wp2_with fail
          refine (rCheck_any a2 l n c2 ev _ HN.out (H2.out.later (g3.trans (by (repeat' (first | (with_reducible exact G.refl _) | (with_reducible assumption) | (with_reducible refine G.drewN ?_ _) | (with_reducible refine G.drew ?_) | (with_reducible refine G.alloc ?_ _) | (with_reducible refine G.setCell ?_ (by first | (with_reducible exact Nat.le_refl _) | (simp; done) | (simp; omega) | omega) _) | (with_reducible refine G.trans ?_ (by assumption)))))))).mono ?_
          rintro r w4 ⟨rfl, hG4⟩
          have g4 : G w1 w4 := g3.trans (G.trans (by (repeat' (first | (with_reducible exact G.refl _) | (with_reducible refine G.drewN ?_ _) | (with_reducible refine G.drew ?_) | (with_reducible refine G.alloc ?_ _)))) hG4)
          rw [HCK.out, HE2.out]
          go_wp2_with fail
          go_ret
          exact ⟨by first | rfl | simp, g1.trans (g4.trans (by (repeat' (first | (with_reducible exact G.refl _) | (with_reducible assumption) | (with_reducible refine G.drewN ?_ _) | (with_reducible refine G.drew ?_) | (with_reducible refine G.alloc ?_ _) | (with_reducible refine G.setCell ?_ (by first | (with_reducible exact Nat.le_refl _) | (simp; done) | (simp; omega) | omega) _) | (with_reducible refine G.trans ?_ (by assumption))))))⟩
        by_cases k3 : ev < p
        · go_wp2_with fail
          refine (known_any _).mono ?_
          rintro r w3 ⟨rfl, hG3⟩
          have g3 : G w1 w3 := g2.trans (G.trans (by (repeat' (first | (with_reducible exact G.refl _) | (with_reducible refine G.drewN ?_ _) | (with_reducible refine G.drew ?_) | (with_reducible refine G.alloc ?_ _)))) hG3)
          go_wp2_with fail
          refine (rCheck_any a2 l n c2 ev _ HN.out (H2.out.later (g3.trans (by (repeat' (first | (with_reducible exact G.refl _) | (with_reducible assumption) | (with_reducible refine G.drewN ?_ _) | (with_reducible refine G.drew ?_) | (with_reducible refine G.alloc ?_ _) | (with_reducible refine G.setCell ?_ (by first | (with_reducible exact Nat.le_refl _) | (simp; done) | (simp; omega) | omega) _) | (with_reducible refine G.trans ?_ (by assumption)))))))).mono ?_
          rintro r w4 ⟨rfl, hG4⟩
          have g4 : G w1 w4 := g3.trans (G.trans (by (repeat' (first | (with_reducible exact G.refl _) | (with_reducible refine G.drewN ?_ _) | (with_reducible refine G.drew ?_) | (with_reducible refine G.alloc ?_ _)))) hG4)
          rw [HCK.out, HE2.out]
          go_wp2_with fail
          go_ret
          exact ⟨by first | rfl | simp, g1.trans (g4.trans (by (repeat' (first | (with_reducible exact G.refl _) | (with_reducible assumption) | (with_reducible refine G.drewN ?_ _) | (with_reducible refine G.drew ?_) | (with_reducible refine G.alloc ?_ _) | (with_reducible refine G.setCell ?_ (by first | (with_reducible exact Nat.le_refl _) | (simp; done) | (simp; omega) | omega) _) | (with_reducible refine G.trans ?_ (by assumption))))))⟩
        have qa := IntWalk.i64_in (ev - p) (by omega)
        by_cases k4 : ev - p < q
        · go_wp2_with fail
          refine (known_any _).mono ?_
          rintro r w3 ⟨rfl, hG3⟩
          have g3 : G w1 w3 := g2.trans (G.trans (by (repeat' (first | (with_reducible exact G.refl _) | (with_reducible refine G.drewN ?_ _) | (with_reducible refine G.drew ?_) | (with_reducible refine G.alloc ?_ _)))) hG3)
          go_wp2_with fail
          refine (rCheck_any a2 l n c2 ev _ HN.out (H2.out.later (g3.trans (by (repeat' (first | (with_reducible exact G.refl _) | (with_reducible assumption) | (with_reducible refine G.drewN ?_ _) | (with_reducible refine G.drew ?_) | (with_reducible refine G.alloc ?_ _) | (with_reducible refine G.setCell ?_ (by first | (with_reducible exact Nat.le_refl _) | (simp; done) | (simp; omega) | omega) _) | (with_reducible refine G.trans ?_ (by assumption)))))))).mono ?_
          rintro r w4 ⟨rfl, hG4⟩
          have g4 : G w1 w4 := g3.trans (G.trans (by (repeat' (first | (with_reducible exact G.refl _) | (with_reducible refine G.drewN ?_ _) | (with_reducible refine G.drew ?_) | (with_reducible refine G.alloc ?_ _)))) hG4)
          rw [HCK.out, HE2.out]
          go_wp2_with fail
          go_ret
          exact ⟨by first | rfl | simp, g1.trans (g4.trans (by (repeat' (first | (with_reducible exact G.refl _) | (with_reducible assumption) | (with_reducible refine G.drewN ?_ _) | (with_reducible refine G.drew ?_) | (with_reducible refine G.alloc ?_ _) | (with_reducible refine G.setCell ?_ (by first | (with_reducible exact Nat.le_refl _) | (simp; done) | (simp; omega) | omega) _) | (with_reducible refine G.trans ?_ (by assumption))))))⟩
        exact absurd (by omega) hno
      have hk : ckT ev l = 0 := by
        unfold delE at hE0
        by_cases h : ckT ev l = 0
        · exact h
        · rw [if_neg h] at hE0; exact absurd hE0 h
      have HCK := Lib.hid hk
      have HKO := Lib.hid (ckT_ok hk)
      have hin : 0 ≤ p ∧ 0 ≤ q ∧ q ≤ ev - p := by
        unfold delE at hE0
        rw [if_pos hk] at hE0
        by_cases h : 0 ≤ p ∧ 0 ≤ q ∧ q ≤ ev - p
        · exact h
        · rw [if_neg h] at hE0; exact absurd hE0 (by decide)
      have HI := Lib.hid hin
      have hev := (ckT_ok hk).1
      have HEV := Lib.hid hev
      obtain ⟨p0, q0', q1'⟩ := hin
      have HE0 := Lib.hid (show E = 0 by rw [← hE.out]; exact hE0)
      have p1 : p ≤ ev := by omega
      have p2 : ¬ ev < p := by omega
      have p3 : ¬ ev - p < q := by omega
      have qa := IntWalk.i64_in (ev - p) (by omega)
      have qb := IntWalk.i64_in (ev - q) (by omega)
      have qc := IntWalk.i64_in (128 - ev) (by omega)
      have HDS := Lib.hid (ckT_delS (cnt := q) hk p0 q0' (by omega))
      have HCBD := Lib.hid (show CB (sortT (delL p q l)) from fun t ht => by
        have h := (ckT_ok HDS.out).2.2.2.1 t ht
        have := (ckT_ok HDS.out).1
        unfold InR at h
        omega)
      have HDL := Lib.hid (show (sortT (delL p q l)).length ≤ 20 by rw [sort_len]; exact Nat.le_trans (delL_len _ _ _) (by have := HN.out; have := HK.out; omega))
      have hA := HDR.out
      unfold DelR at hA
      rw [if_pos hE0] at hA
      obtain ⟨a3, c3, rfl, hT3⟩ := hA
      obtain ⟨dl, hdl⟩ : ∃ z : Nat, Hid ((sortT (delL p q l)).length = z) := ⟨_, rfl⟩
      rw [hdl.out] at HDL ⊢
      have H3 := Lib.hid hT3
      rw [HE0.out]
      clear hT3 hE0 hk HDR
      go_wp2_with fail
      refine (known_any _).mono ?_
      rintro r w3 ⟨rfl, hG3⟩
      have g23 : G w2 w3 := G.trans (by (repeat' (first | (with_reducible exact G.refl _) | (with_reducible refine G.drewN ?_ _) | (with_reducible refine G.drew ?_) | (with_reducible refine G.alloc ?_ _)))) hG3
      go_wp2_with fail
      refine (rCheck_any a2 l n c2 ev _ HN.out (H2.out.later (g2.trans (g23.trans (by (repeat' (first | (with_reducible exact G.refl _) | (with_reducible assumption) | (with_reducible refine G.drewN ?_ _) | (with_reducible refine G.drew ?_) | (with_reducible refine G.alloc ?_ _) | (with_reducible refine G.setCell ?_ (by first | (with_reducible exact Nat.le_refl _) | (simp; done) | (simp; omega) | omega) _) | (with_reducible refine G.trans ?_ (by assumption))))))))).mono ?_
      rintro r w4 ⟨rfl, hG4⟩
      have g24 : G w2 w4 := g23.trans (G.trans (by (repeat' (first | (with_reducible exact G.refl _) | (with_reducible refine G.drewN ?_ _) | (with_reducible refine G.drew ?_) | (with_reducible refine G.alloc ?_ _)))) hG4)
      rw [HCK.out]
      go_wp2_with fail
      refine (rDelete_any a2 l n c2 ev p q _ HN.out HK.out (H2.out.later (g2.trans (g24.trans (by (repeat' (first | (with_reducible exact G.refl _) | (with_reducible assumption) | (with_reducible refine G.drewN ?_ _) | (with_reducible refine G.drew ?_) | (with_reducible refine G.alloc ?_ _) | (with_reducible refine G.setCell ?_ (by first | (with_reducible exact Nat.le_refl _) | (simp; done) | (simp; omega) | omega) _) | (with_reducible refine G.trans ?_ (by assumption)))))))) HEV.out HKO.out.2.2.2.1 HI.out).mono ?_
      rintro r w5 ⟨v5, rfl, hR5, hG5⟩
      have g25 : G w2 w5 := g24.trans (G.trans (by (repeat' (first | (with_reducible exact G.refl _) | (with_reducible refine G.drewN ?_ _) | (with_reducible refine G.drew ?_) | (with_reducible refine G.alloc ?_ _)))) hG5)
      obtain ⟨a5, c5, rfl, hT5⟩ := hR5.tus
      rw [hdl.out]
      have H5 := Lib.hid hT5
      clear hR5 hT5
      go_wp2_with fail
      refine (same_same a3 a5 _ dl c3 c5 _ hdl.out (by have := HDL.out; omega) (H3.out.later (g25.trans (by (repeat' (first | (with_reducible exact G.refl _) | (with_reducible assumption) | (with_reducible refine G.drewN ?_ _) | (with_reducible refine G.drew ?_) | (with_reducible refine G.alloc ?_ _) | (with_reducible refine G.setCell ?_ (by first | (with_reducible exact Nat.le_refl _) | (simp; done) | (simp; omega) | omega) _) | (with_reducible refine G.trans ?_ (by assumption))))))) (H5.out.later (by (repeat' (first | (with_reducible exact G.refl _) | (with_reducible assumption) | (with_reducible refine G.drewN ?_ _) | (with_reducible refine G.drew ?_) | (with_reducible refine G.alloc ?_ _) | (with_reducible refine G.setCell ?_ (by first | (with_reducible exact Nat.le_refl _) | (simp; done) | (simp; omega) | omega) _) | (with_reducible refine G.trans ?_ (by assumption))))))).mono ?_
      rintro r w6 ⟨rfl, hG6⟩
      have g26 : G w2 w6 := g25.trans (G.trans (by (repeat' (first | (with_reducible exact G.refl _) | (with_reducible refine G.drewN ?_ _) | (with_reducible refine G.drew ?_) | (with_reducible refine G.alloc ?_ _)))) hG6)
      go_wp2_with fail
      refine (tCheck_any a3 _ dl c3 _ _ hdl.out (H3.out.later (g26.trans (by (repeat' (first | (with_reducible exact G.refl _) | (with_reducible assumption) | (with_reducible refine G.drewN ?_ _) | (with_reducible refine G.drew ?_) | (with_reducible refine G.alloc ?_ _) | (with_reducible refine G.setCell ?_ (by first | (with_reducible exact Nat.le_refl _) | (simp; done) | (simp; omega) | omega) _) | (with_reducible refine G.trans ?_ (by assumption))))))) HCBD.out).mono ?_
      rintro r w7 ⟨rfl, hG7⟩
      have g27 : G w2 w7 := g26.trans (G.trans (by (repeat' (first | (with_reducible exact G.refl _) | (with_reducible refine G.drewN ?_ _) | (with_reducible refine G.drew ?_) | (with_reducible refine G.alloc ?_ _)))) hG7)
      rw [HDS.out]
      go_wp2_with fail
      go_loopg [13] n (fun k x wr => ∃ i : Nat, x = .int .i64 i ∧ k = n - i ∧ i ≤ n ∧ G w2 wr)
      case atStart => exact ⟨0, rfl, by omega, by omega, g27.trans (by (repeat' (first | (with_reducible exact G.refl _) | (with_reducible assumption) | (with_reducible refine G.drewN ?_ _) | (with_reducible refine G.drew ?_) | (with_reducible refine G.alloc ?_ _) | (with_reducible refine G.setCell ?_ (by first | (with_reducible exact Nat.le_refl _) | (simp; done) | (simp; omega) | omega) _) | (with_reducible refine G.trans ?_ (by assumption)))))⟩
      case round =>
        obtain ⟨i, rfl, hq, hi, gr⟩ := hrel
        have HQ := Lib.hid hq
        clear hq
        by_cases hin2 : i < n
        · obtain ⟨⟨f, cc, aa, nn⟩, hp⟩ : ∃ z, l[i]? = some z := ⟨l[i]'(by have := HN.out; omega), List.getElem?_eq_getElem (by have := HN.out; omega)⟩
          rcases H2.out with hz | ⟨b0, of, rfl, fc⟩
          · rw [hz] at hp; simp at hp
          obtain ⟨x0, x1, x2, x3⟩ := (fc i _ hp).later (g2.trans gr)
          dsimp only at x0 x1 x2 x3
          have hone := HKO.out.2.2.2.1 _ (List.mem_of_getElem? hp)
          have HO := Lib.hid (show (-9223372036854775808 ≤ f + cc ∧ f + cc ≤ 9223372036854775807) by have := HEV.out; unfold InR at hone; dsimp only at hone; omega)
          have b1 : (0 : Int) ≤ (i : Int) := by omega
          have b2 : (i : Int) < (n : Int) := by omega
          have q1 := IntWalk.i64_in ((i : Int) + 1) (by have := HK.out; omega)
          clear fc hp hone
          by_cases hit : InT ⟨f, cc, aa, nn⟩ p
          · have HIT := Lib.hid hit
            clear hit
            by_cases hfp : f < p
            · go_wp2_with fail
              refine (rIn_any _ _ _ _ _ _ HO.out.1 HO.out.2).mono ?_
              rintro r w8 ⟨rfl, hG8⟩
              rw [decide_eq_true HIT.out]
              have g8 : G wr w8 := G.trans (by (repeat' (first | (with_reducible exact G.refl _) | (with_reducible refine G.drewN ?_ _) | (with_reducible refine G.drew ?_) | (with_reducible refine G.alloc ?_ _)))) hG8
              have y0 := g8.at x0
              clear x0 x1 x2 x3
              go_wp2_with fail
              go_ret
              exact ⟨by first | rfl | simp, g1.trans (g2.trans (gr.trans (g8.trans (by (repeat' (first | (with_reducible exact G.refl _) | (with_reducible assumption) | (with_reducible refine G.drewN ?_ _) | (with_reducible refine G.drew ?_) | (with_reducible refine G.alloc ?_ _) | (with_reducible refine G.setCell ?_ (by first | (with_reducible exact Nat.le_refl _) | (simp; done) | (simp; omega) | omega) _) | (with_reducible refine G.trans ?_ (by assumption))))))))⟩
            · go_wp2_with fail
              refine (rIn_any _ _ _ _ _ _ HO.out.1 HO.out.2).mono ?_
              rintro r w8 ⟨rfl, hG8⟩
              rw [decide_eq_true HIT.out]
              have g8 : G wr w8 := G.trans (by (repeat' (first | (with_reducible exact G.refl _) | (with_reducible refine G.drewN ?_ _) | (with_reducible refine G.drew ?_) | (with_reducible refine G.alloc ?_ _)))) hG8
              have y0 := g8.at x0
              clear x0 x1 x2 x3
              go_wp2_with fail
              go_roundg (n - (i + 1))
              case measure => have := HQ.out; omega
              case rel => exact ⟨i + 1, by go_num, rfl, by omega, gr.trans (g8.trans (by (repeat' (first | (with_reducible exact G.refl _) | (with_reducible assumption) | (with_reducible refine G.drewN ?_ _) | (with_reducible refine G.drew ?_) | (with_reducible refine G.alloc ?_ _) | (with_reducible refine G.setCell ?_ (by first | (with_reducible exact Nat.le_refl _) | (simp; done) | (simp; omega) | omega) _) | (with_reducible refine G.trans ?_ (by assumption))))))⟩
          · have HIT := Lib.hid hit
            clear hit
            go_wp2_with fail
            refine (rIn_any _ _ _ _ _ _ HO.out.1 HO.out.2).mono ?_
            rintro r w8 ⟨rfl, hG8⟩
            rw [decide_eq_false HIT.out]
            have g8 : G wr w8 := G.trans (by (repeat' (first | (with_reducible exact G.refl _) | (with_reducible refine G.drewN ?_ _) | (with_reducible refine G.drew ?_) | (with_reducible refine G.alloc ?_ _)))) hG8
            clear x0 x1 x2 x3
            go_wp2_with fail
            go_roundg (n - (i + 1))
            case measure => have := HQ.out; omega
            case rel => exact ⟨i + 1, by go_num, rfl, by omega, gr.trans (g8.trans (by (repeat' (first | (with_reducible exact G.refl _) | (with_reducible assumption) | (with_reducible refine G.drewN ?_ _) | (with_reducible refine G.drew ?_) | (with_reducible refine G.alloc ?_ _) | (with_reducible refine G.setCell ?_ (by first | (with_reducible exact Nat.le_refl _) | (simp; done) | (simp; omega) | omega) _) | (with_reducible refine G.trans ?_ (by assumption))))))⟩
        · have b2 : ¬ (i : Int) < (n : Int) := by omega
          have gw2 : G w wr := g1.trans (g2.trans gr)
          by_cases k5 : q ≤ 128 - ev
          · have qd := IntWalk.i64_in (ev + q) (by omega)
            have HINS := Lib.hid (ckT_ins (cnt := q) HCK.out p0 p1 (by omega) (by omega))
            have HIE := Lib.hid (show insE l ev p q = 0 by unfold insE; rw [if_pos HCK.out, if_pos ⟨p0, p1, by omega, by omega⟩])
            have HDE := Lib.hid (show delE (l.map (insT p q)) (ev + q) p q = 0 by unfold delE; rw [if_pos HINS.out, if_pos ⟨p0, by omega, by omega⟩])
            have HBACK := Lib.hid (del_insL (at_ := p) (cnt := q) HCK.out (by omega))
            have HCB := Lib.hid (show CB (l.map (insT p q)) from fun t ht => by
              have h := (ckT_ok HINS.out).2.2.2.1 t ht
              have := (ckT_ok HINS.out).1
              unfold InR at h
              omega)
            have HML := Lib.hid (show (l.map (insT p q)).length = n by rw [List.length_map]; exact HN.out)
            go_wp2_with fail
            refine (tInsert_any a l n c ev p q _ HN.out HK.out (H1.out.later (gw2.trans (by (repeat' (first | (with_reducible exact G.refl _) | (with_reducible assumption) | (with_reducible refine G.drewN ?_ _) | (with_reducible refine G.drew ?_) | (with_reducible refine G.alloc ?_ _) | (with_reducible refine G.setCell ?_ (by first | (with_reducible exact Nat.le_refl _) | (simp; done) | (simp; omega) | omega) _) | (with_reducible refine G.trans ?_ (by assumption))))))) HC.out HZ.out).mono ?_
            rintro r w8 ⟨v8, rfl, hI8, hG8⟩
            have g8 : G wr w8 := G.trans (by (repeat' (first | (with_reducible exact G.refl _) | (with_reducible refine G.drewN ?_ _) | (with_reducible refine G.drew ?_) | (with_reducible refine G.alloc ?_ _)))) hG8
            unfold InsR at hI8
            rw [if_pos HIE.out] at hI8
            obtain ⟨a8, c8, rfl, hT8⟩ := hI8
            have H8 := Lib.hid hT8
            rw [HIE.out, HN.out]
            clear hT8
            go_wp2_with fail
            refine (tDelete_any a8 _ n c8 (ev + q) p q _ HML.out HK.out (H8.out.later (by (repeat' (first | (with_reducible exact G.refl _) | (with_reducible assumption) | (with_reducible refine G.drewN ?_ _) | (with_reducible refine G.drew ?_) | (with_reducible refine G.alloc ?_ _) | (with_reducible refine G.setCell ?_ (by first | (with_reducible exact Nat.le_refl _) | (simp; done) | (simp; omega) | omega) _) | (with_reducible refine G.trans ?_ (by assumption)))))) HCB.out HPB.out).mono ?_
            rintro r w9 ⟨v9, rfl, hD9, hG9⟩
            have g9 : G wr w9 := g8.trans (G.trans (by (repeat' (first | (with_reducible exact G.refl _) | (with_reducible refine G.drewN ?_ _) | (with_reducible refine G.drew ?_) | (with_reducible refine G.alloc ?_ _)))) hG9)
            unfold DelR at hD9
            rw [if_pos HDE.out, HBACK.out] at hD9
            obtain ⟨a9, c9, rfl, hT9⟩ := hD9
            have H9 := Lib.hid hT9
            rw [HDE.out, HN.out]
            clear hT9
            go_wp2_with fail
            refine (tEqual_any a9 a l l n n c9 c _ HN.out HN.out (by have := HK.out; omega) (H9.out.later (by (repeat' (first | (with_reducible exact G.refl _) | (with_reducible assumption) | (with_reducible refine G.drewN ?_ _) | (with_reducible refine G.drew ?_) | (with_reducible refine G.alloc ?_ _) | (with_reducible refine G.setCell ?_ (by first | (with_reducible exact Nat.le_refl _) | (simp; done) | (simp; omega) | omega) _) | (with_reducible refine G.trans ?_ (by assumption)))))) (H1.out.later (gw2.trans (g9.trans (by (repeat' (first | (with_reducible exact G.refl _) | (with_reducible assumption) | (with_reducible refine G.drewN ?_ _) | (with_reducible refine G.drew ?_) | (with_reducible refine G.alloc ?_ _) | (with_reducible refine G.setCell ?_ (by first | (with_reducible exact Nat.le_refl _) | (simp; done) | (simp; omega) | omega) _) | (with_reducible refine G.trans ?_ (by assumption))))))))).mono ?_
            rintro r w10 ⟨rfl, hG10⟩
            have g10 : G wr w10 := g9.trans (G.trans (by (repeat' (first | (with_reducible exact G.refl _) | (with_reducible refine G.drewN ?_ _) | (with_reducible refine G.drew ?_) | (with_reducible refine G.alloc ?_ _)))) hG10)
            rw [decide_eq_true (show l = l from rfl)]
            go_wp2_with fail
            go_ret
            exact ⟨by first | rfl | simp, gw2.trans (g10.trans (by (repeat' (first | (with_reducible exact G.refl _) | (with_reducible assumption) | (with_reducible refine G.drewN ?_ _) | (with_reducible refine G.drew ?_) | (with_reducible refine G.alloc ?_ _) | (with_reducible refine G.setCell ?_ (by first | (with_reducible exact Nat.le_refl _) | (simp; done) | (simp; omega) | omega) _) | (with_reducible refine G.trans ?_ (by assumption))))))⟩
          · have qd := IntWalk.i64_in (ev + (128 - ev)) (by omega)
            have HINS := Lib.hid (ckT_ins (cnt := (128 - ev)) HCK.out p0 p1 (by omega) (by omega))
            have HIE := Lib.hid (show insE l ev p (128 - ev) = 0 by unfold insE; rw [if_pos HCK.out, if_pos ⟨p0, p1, by omega, by omega⟩])
            have HDE := Lib.hid (show delE (l.map (insT p (128 - ev))) (ev + (128 - ev)) p (128 - ev) = 0 by unfold delE; rw [if_pos HINS.out, if_pos ⟨p0, by omega, by omega⟩])
            have HBACK := Lib.hid (del_insL (at_ := p) (cnt := (128 - ev)) HCK.out (by omega))
            have HCB := Lib.hid (show CB (l.map (insT p (128 - ev))) from fun t ht => by
              have h := (ckT_ok HINS.out).2.2.2.1 t ht
              have := (ckT_ok HINS.out).1
              unfold InR at h
              omega)
            have HML := Lib.hid (show (l.map (insT p (128 - ev))).length = n by rw [List.length_map]; exact HN.out)
            go_wp2_with fail
            refine (tInsert_any a l n c ev p (128 - ev) _ HN.out HK.out (H1.out.later (gw2.trans (by (repeat' (first | (with_reducible exact G.refl _) | (with_reducible assumption) | (with_reducible refine G.drewN ?_ _) | (with_reducible refine G.drew ?_) | (with_reducible refine G.alloc ?_ _) | (with_reducible refine G.setCell ?_ (by first | (with_reducible exact Nat.le_refl _) | (simp; done) | (simp; omega) | omega) _) | (with_reducible refine G.trans ?_ (by assumption))))))) HC.out HZ.out).mono ?_
            rintro r w8 ⟨v8, rfl, hI8, hG8⟩
            have g8 : G wr w8 := G.trans (by (repeat' (first | (with_reducible exact G.refl _) | (with_reducible refine G.drewN ?_ _) | (with_reducible refine G.drew ?_) | (with_reducible refine G.alloc ?_ _)))) hG8
            unfold InsR at hI8
            rw [if_pos HIE.out] at hI8
            obtain ⟨a8, c8, rfl, hT8⟩ := hI8
            have H8 := Lib.hid hT8
            rw [HIE.out, HN.out]
            clear hT8
            go_wp2_with fail
            refine (tDelete_any a8 _ n c8 (ev + (128 - ev)) p (128 - ev) _ HML.out HK.out (H8.out.later (by (repeat' (first | (with_reducible exact G.refl _) | (with_reducible assumption) | (with_reducible refine G.drewN ?_ _) | (with_reducible refine G.drew ?_) | (with_reducible refine G.alloc ?_ _) | (with_reducible refine G.setCell ?_ (by first | (with_reducible exact Nat.le_refl _) | (simp; done) | (simp; omega) | omega) _) | (with_reducible refine G.trans ?_ (by assumption)))))) HCB.out HPB.out).mono ?_
            rintro r w9 ⟨v9, rfl, hD9, hG9⟩
            have g9 : G wr w9 := g8.trans (G.trans (by (repeat' (first | (with_reducible exact G.refl _) | (with_reducible refine G.drewN ?_ _) | (with_reducible refine G.drew ?_) | (with_reducible refine G.alloc ?_ _)))) hG9)
            unfold DelR at hD9
            rw [if_pos HDE.out, HBACK.out] at hD9
            obtain ⟨a9, c9, rfl, hT9⟩ := hD9
            have H9 := Lib.hid hT9
            rw [HDE.out, HN.out]
            clear hT9
            go_wp2_with fail
            refine (tEqual_any a9 a l l n n c9 c _ HN.out HN.out (by have := HK.out; omega) (H9.out.later (by (repeat' (first | (with_reducible exact G.refl _) | (with_reducible assumption) | (with_reducible refine G.drewN ?_ _) | (with_reducible refine G.drew ?_) | (with_reducible refine G.alloc ?_ _) | (with_reducible refine G.setCell ?_ (by first | (with_reducible exact Nat.le_refl _) | (simp; done) | (simp; omega) | omega) _) | (with_reducible refine G.trans ?_ (by assumption)))))) (H1.out.later (gw2.trans (g9.trans (by (repeat' (first | (with_reducible exact G.refl _) | (with_reducible assumption) | (with_reducible refine G.drewN ?_ _) | (with_reducible refine G.drew ?_) | (with_reducible refine G.alloc ?_ _) | (with_reducible refine G.setCell ?_ (by first | (with_reducible exact Nat.le_refl _) | (simp; done) | (simp; omega) | omega) _) | (with_reducible refine G.trans ?_ (by assumption))))))))).mono ?_
            rintro r w10 ⟨rfl, hG10⟩
            have g10 : G wr w10 := g9.trans (G.trans (by (repeat' (first | (with_reducible exact G.refl _) | (with_reducible refine G.drewN ?_ _) | (with_reducible refine G.drew ?_) | (with_reducible refine G.alloc ?_ _)))) hG10)
            rw [decide_eq_true (show l = l from rfl)]
            go_wp2_with fail
            go_ret
            exact ⟨by first | rfl | simp, gw2.trans (g10.trans (by (repeat' (first | (with_reducible exact G.refl _) | (with_reducible assumption) | (with_reducible refine G.drewN ?_ _) | (with_reducible refine G.drew ?_) | (with_reducible refine G.alloc ?_ _) | (with_reducible refine G.setCell ?_ (by first | (with_reducible exact Nat.le_refl _) | (simp; done) | (simp; omega) | omega) _) | (with_reducible refine G.trans ?_ (by assumption))))))⟩
  · have HZ := Lib.hid hz
    have HPB := Lib.hid hpb
    clear hz
    have H1 := Lib.hid (h1.take 20)
    have HC := Lib.hid ((cb_of hwf).take 20)
    have HN := Lib.hid (show (l0.take 20).length = 20 by rw [List.length_take]; omega)
    have HK := Lib.hid (show 20 ≤ 20 from Nat.le_refl _)
    have m3 : (20 : Int) ≤ (c : Int) := by omega
    have m4 : 20 ≤ c := by omega
    generalize l0.take 20 = l at *
    clear h1 hwf hc
    obtain ⟨E, hE⟩ : ∃ z : Int, Hid (delE l ev p q = z) := ⟨_, rfl⟩
    go_enter Try.func12, Try.ntmps12
    go_wp2_with fail
    refine (to_any a l 20 c _ HN.out HK.out (H1.out.later (by (repeat' (first | (with_reducible exact G.refl _) | (with_reducible assumption) | (with_reducible refine G.drewN ?_ _) | (with_reducible refine G.drew ?_) | (with_reducible refine G.alloc ?_ _) | (with_reducible refine G.setCell ?_ (by first | (with_reducible exact Nat.le_refl _) | (simp; done) | (simp; omega) | omega) _) | (with_reducible refine G.trans ?_ (by assumption))))))).mono ?_
    rintro r w1 ⟨v, rfl, hR, hG1⟩
    obtain ⟨z0, z1⟩ := two_at rfl hG1
    have g1 : G w w1 := G.trans (by (repeat' (first | (with_reducible exact G.refl _) | (with_reducible refine G.drewN ?_ _) | (with_reducible refine G.drew ?_) | (with_reducible refine G.alloc ?_ _)))) hG1
    obtain ⟨a2, c2, rfl, hT2⟩ := hR.tus
    rw [HN.out]
    have H2 := Lib.hid hT2
    clear hR hT2
    go_wp2_with fail
    go_big_region
    all_goals
      go_wp2_with fail
      refine (tDelete_any a l 20 c ev p q _ HN.out HK.out (H1.out.later (g1.trans (by (repeat' (first | (with_reducible exact G.refl _) | (with_reducible assumption) | (with_reducible refine G.drewN ?_ _) | (with_reducible refine G.drew ?_) | (with_reducible refine G.alloc ?_ _) | (with_reducible refine G.setCell ?_ (by first | (with_reducible exact Nat.le_refl _) | (simp; done) | (simp; omega) | omega) _) | (with_reducible refine G.trans ?_ (by assumption))))))) HC.out HPB.out).mono ?_
      rintro r w2 ⟨v2, rfl, hDR, hG2⟩
      have g2 : G w1 w2 := G.trans (by (repeat' (first | (with_reducible exact G.refl _) | (with_reducible refine G.drewN ?_ _) | (with_reducible refine G.drew ?_) | (with_reducible refine G.alloc ?_ _)))) hG2
      have HDR := Lib.hid hDR
      clear hDR z0 z1
      rw [hE.out]
      by_cases hE0 : delE l ev p q = 0
      rotate_left
      · have hA := HDR.out
        unfold DelR at hA
        rw [if_neg hE0] at hA
        subst hA
        by_cases hk : ckT ev l = 0
        rotate_left
        · have HE := Lib.hid (show ckT ev l = E by rw [← hE.out]; exact (if_neg hk).symm)
          rw [HE.out] at hk
          have e3 : (E == 0) = false := beq_false_of_ne hk
          have e4 : (E != 0) = true := by simp [bne, e3]
          clear hk hE0
          go_wp2_with fail
          refine (known_any _).mono ?_
          rintro r w3 ⟨rfl, hG3⟩
          have g3 : G w1 w3 := g2.trans (G.trans (by (repeat' (first | (with_reducible exact G.refl _) | (with_reducible refine G.drewN ?_ _) | (with_reducible refine G.drew ?_) | (with_reducible refine G.alloc ?_ _)))) hG3)
          go_wp2_with fail
          refine (rCheck_any a2 l 20 c2 ev _ HN.out (H2.out.later (g3.trans (by (repeat' (first | (with_reducible exact G.refl _) | (with_reducible assumption) | (with_reducible refine G.drewN ?_ _) | (with_reducible refine G.drew ?_) | (with_reducible refine G.alloc ?_ _) | (with_reducible refine G.setCell ?_ (by first | (with_reducible exact Nat.le_refl _) | (simp; done) | (simp; omega) | omega) _) | (with_reducible refine G.trans ?_ (by assumption)))))))).mono ?_
          rintro r w4 ⟨rfl, hG4⟩
          have g4 : G w1 w4 := g3.trans (G.trans (by (repeat' (first | (with_reducible exact G.refl _) | (with_reducible refine G.drewN ?_ _) | (with_reducible refine G.drew ?_) | (with_reducible refine G.alloc ?_ _)))) hG4)
          rw [HE.out]
          go_wp2_with fail
          go_ret
          exact ⟨by first | rfl | simp, g1.trans (g4.trans (by (repeat' (first | (with_reducible exact G.refl _) | (with_reducible assumption) | (with_reducible refine G.drewN ?_ _) | (with_reducible refine G.drew ?_) | (with_reducible refine G.alloc ?_ _) | (with_reducible refine G.setCell ?_ (by first | (with_reducible exact Nat.le_refl _) | (simp; done) | (simp; omega) | omega) _) | (with_reducible refine G.trans ?_ (by assumption))))))⟩
        have HCK := Lib.hid hk
        have hev := (ckT_ok hk).1
        have HEE := Lib.hid (show delE l ev p q = if 0 ≤ p ∧ 0 ≤ q ∧ q ≤ ev - p then 0 else 2 from if_pos hk)
        have hno : ¬ (0 ≤ p ∧ 0 ≤ q ∧ q ≤ ev - p) := fun h => hE0 (HEE.out.trans (if_pos h))
        have HE2 := Lib.hid (show E = 2 by rw [← hE.out, HEE.out, if_neg hno])
        clear hk hE0
        by_cases k1 : p < 0
        · go_wp2_with fail
          refine (known_any _).mono ?_
          rintro r w3 ⟨rfl, hG3⟩
          have g3 : G w1 w3 := g2.trans (G.trans (by (repeat' (first | (with_reducible exact G.refl _) | (with_reducible refine G.drewN ?_ _) | (with_reducible refine G.drew ?_) | (with_reducible refine G.alloc ?_ _)))) hG3)
          go_wp2_with fail
          refine (rCheck_any a2 l 20 c2 ev _ HN.out (H2.out.later (g3.trans (by (repeat' (first | (with_reducible exact G.refl _) | (with_reducible assumption) | (with_reducible refine G.drewN ?_ _) | (with_reducible refine G.drew ?_) | (with_reducible refine G.alloc ?_ _) | (with_reducible refine G.setCell ?_ (by first | (with_reducible exact Nat.le_refl _) | (simp; done) | (simp; omega) | omega) _) | (with_reducible refine G.trans ?_ (by assumption)))))))).mono ?_
          rintro r w4 ⟨rfl, hG4⟩
          have g4 : G w1 w4 := g3.trans (G.trans (by (repeat' (first | (with_reducible exact G.refl _) | (with_reducible refine G.drewN ?_ _) | (with_reducible refine G.drew ?_) | (with_reducible refine G.alloc ?_ _)))) hG4)
          rw [HCK.out, HE2.out]
          go_wp2_with fail
          go_ret
          exact ⟨by first | rfl | simp, g1.trans (g4.trans (by (repeat' (first | (with_reducible exact G.refl _) | (with_reducible assumption) | (with_reducible refine G.drewN ?_ _) | (with_reducible refine G.drew ?_) | (with_reducible refine G.alloc ?_ _) | (with_reducible refine G.setCell ?_ (by first | (with_reducible exact Nat.le_refl _) | (simp; done) | (simp; omega) | omega) _) | (with_reducible refine G.trans ?_ (by assumption))))))⟩
        by_cases k2 : q < 0
        · go_wp2_with fail
          refine (known_any _).mono ?_
          rintro r w3 ⟨rfl, hG3⟩
          have g3 : G w1 w3 := g2.trans (G.trans (by (repeat' (first | (with_reducible exact G.refl _) | (with_reducible refine G.drewN ?_ _) | (with_reducible refine G.drew ?_) | (with_reducible refine G.alloc ?_ _)))) hG3)
          go_wp2_with fail
          refine (rCheck_any a2 l 20 c2 ev _ HN.out (H2.out.later (g3.trans (by (repeat' (first | (with_reducible exact G.refl _) | (with_reducible assumption) | (with_reducible refine G.drewN ?_ _) | (with_reducible refine G.drew ?_) | (with_reducible refine G.alloc ?_ _) | (with_reducible refine G.setCell ?_ (by first | (with_reducible exact Nat.le_refl _) | (simp; done) | (simp; omega) | omega) _) | (with_reducible refine G.trans ?_ (by assumption)))))))).mono ?_
          rintro r w4 ⟨rfl, hG4⟩
          have g4 : G w1 w4 := g3.trans (G.trans (by (repeat' (first | (with_reducible exact G.refl _) | (with_reducible refine G.drewN ?_ _) | (with_reducible refine G.drew ?_) | (with_reducible refine G.alloc ?_ _)))) hG4)
          rw [HCK.out, HE2.out]
          go_wp2_with fail
          go_ret
          exact ⟨by first | rfl | simp, g1.trans (g4.trans (by (repeat' (first | (with_reducible exact G.refl _) | (with_reducible assumption) | (with_reducible refine G.drewN ?_ _) | (with_reducible refine G.drew ?_) | (with_reducible refine G.alloc ?_ _) | (with_reducible refine G.setCell ?_ (by first | (with_reducible exact Nat.le_refl _) | (simp; done) | (simp; omega) | omega) _) | (with_reducible refine G.trans ?_ (by assumption))))))⟩
        by_cases k3 : ev < p
        · go_wp2_with fail
          refine (known_any _).mono ?_
          rintro r w3 ⟨rfl, hG3⟩
          have g3 : G w1 w3 := g2.trans (G.trans (by (repeat' (first | (with_reducible exact G.refl _) | (with_reducible refine G.drewN ?_ _) | (with_reducible refine G.drew ?_) | (with_reducible refine G.alloc ?_ _)))) hG3)
          go_wp2_with fail
          refine (rCheck_any a2 l 20 c2 ev _ HN.out (H2.out.later (g3.trans (by (repeat' (first | (with_reducible exact G.refl _) | (with_reducible assumption) | (with_reducible refine G.drewN ?_ _) | (with_reducible refine G.drew ?_) | (with_reducible refine G.alloc ?_ _) | (with_reducible refine G.setCell ?_ (by first | (with_reducible exact Nat.le_refl _) | (simp; done) | (simp; omega) | omega) _) | (with_reducible refine G.trans ?_ (by assumption)))))))).mono ?_
          rintro r w4 ⟨rfl, hG4⟩
          have g4 : G w1 w4 := g3.trans (G.trans (by (repeat' (first | (with_reducible exact G.refl _) | (with_reducible refine G.drewN ?_ _) | (with_reducible refine G.drew ?_) | (with_reducible refine G.alloc ?_ _)))) hG4)
          rw [HCK.out, HE2.out]
          go_wp2_with fail
          go_ret
          exact ⟨by first | rfl | simp, g1.trans (g4.trans (by (repeat' (first | (with_reducible exact G.refl _) | (with_reducible assumption) | (with_reducible refine G.drewN ?_ _) | (with_reducible refine G.drew ?_) | (with_reducible refine G.alloc ?_ _) | (with_reducible refine G.setCell ?_ (by first | (with_reducible exact Nat.le_refl _) | (simp; done) | (simp; omega) | omega) _) | (with_reducible refine G.trans ?_ (by assumption))))))⟩
        have qa := IntWalk.i64_in (ev - p) (by omega)
        by_cases k4 : ev - p < q
        · go_wp2_with fail
          refine (known_any _).mono ?_
          rintro r w3 ⟨rfl, hG3⟩
          have g3 : G w1 w3 := g2.trans (G.trans (by (repeat' (first | (with_reducible exact G.refl _) | (with_reducible refine G.drewN ?_ _) | (with_reducible refine G.drew ?_) | (with_reducible refine G.alloc ?_ _)))) hG3)
          go_wp2_with fail
          refine (rCheck_any a2 l 20 c2 ev _ HN.out (H2.out.later (g3.trans (by (repeat' (first | (with_reducible exact G.refl _) | (with_reducible assumption) | (with_reducible refine G.drewN ?_ _) | (with_reducible refine G.drew ?_) | (with_reducible refine G.alloc ?_ _) | (with_reducible refine G.setCell ?_ (by first | (with_reducible exact Nat.le_refl _) | (simp; done) | (simp; omega) | omega) _) | (with_reducible refine G.trans ?_ (by assumption)))))))).mono ?_
          rintro r w4 ⟨rfl, hG4⟩
          have g4 : G w1 w4 := g3.trans (G.trans (by (repeat' (first | (with_reducible exact G.refl _) | (with_reducible refine G.drewN ?_ _) | (with_reducible refine G.drew ?_) | (with_reducible refine G.alloc ?_ _)))) hG4)
          rw [HCK.out, HE2.out]
          go_wp2_with fail
          go_ret
          exact ⟨by first | rfl | simp, g1.trans (g4.trans (by (repeat' (first | (with_reducible exact G.refl _) | (with_reducible assumption) | (with_reducible refine G.drewN ?_ _) | (with_reducible refine G.drew ?_) | (with_reducible refine G.alloc ?_ _) | (with_reducible refine G.setCell ?_ (by first | (with_reducible exact Nat.le_refl _) | (simp; done) | (simp; omega) | omega) _) | (with_reducible refine G.trans ?_ (by assumption))))))⟩
        exact absurd (by omega) hno
      have hk : ckT ev l = 0 := by
        unfold delE at hE0
        by_cases h : ckT ev l = 0
        · exact h
        · rw [if_neg h] at hE0; exact absurd hE0 h
      have HCK := Lib.hid hk
      have HKO := Lib.hid (ckT_ok hk)
      have hin : 0 ≤ p ∧ 0 ≤ q ∧ q ≤ ev - p := by
        unfold delE at hE0
        rw [if_pos hk] at hE0
        by_cases h : 0 ≤ p ∧ 0 ≤ q ∧ q ≤ ev - p
        · exact h
        · rw [if_neg h] at hE0; exact absurd hE0 (by decide)
      have HI := Lib.hid hin
      have hev := (ckT_ok hk).1
      have HEV := Lib.hid hev
      obtain ⟨p0, q0', q1'⟩ := hin
      have HE0 := Lib.hid (show E = 0 by rw [← hE.out]; exact hE0)
      have p1 : p ≤ ev := by omega
      have p2 : ¬ ev < p := by omega
      have p3 : ¬ ev - p < q := by omega
      have qa := IntWalk.i64_in (ev - p) (by omega)
      have qb := IntWalk.i64_in (ev - q) (by omega)
      have qc := IntWalk.i64_in (128 - ev) (by omega)
      have HDS := Lib.hid (ckT_delS (cnt := q) hk p0 q0' (by omega))
      have HCBD := Lib.hid (show CB (sortT (delL p q l)) from fun t ht => by
        have h := (ckT_ok HDS.out).2.2.2.1 t ht
        have := (ckT_ok HDS.out).1
        unfold InR at h
        omega)
      have HDL := Lib.hid (show (sortT (delL p q l)).length ≤ 20 by rw [sort_len]; exact Nat.le_trans (delL_len _ _ _) (by have := HN.out; have := HK.out; omega))
      have hA := HDR.out
      unfold DelR at hA
      rw [if_pos hE0] at hA
      obtain ⟨a3, c3, rfl, hT3⟩ := hA
      obtain ⟨dl, hdl⟩ : ∃ z : Nat, Hid ((sortT (delL p q l)).length = z) := ⟨_, rfl⟩
      rw [hdl.out] at HDL ⊢
      have H3 := Lib.hid hT3
      rw [HE0.out]
      clear hT3 hE0 hk HDR
      go_wp2_with fail
      refine (known_any _).mono ?_
      rintro r w3 ⟨rfl, hG3⟩
      have g23 : G w2 w3 := G.trans (by (repeat' (first | (with_reducible exact G.refl _) | (with_reducible refine G.drewN ?_ _) | (with_reducible refine G.drew ?_) | (with_reducible refine G.alloc ?_ _)))) hG3
      go_wp2_with fail
      refine (rCheck_any a2 l 20 c2 ev _ HN.out (H2.out.later (g2.trans (g23.trans (by (repeat' (first | (with_reducible exact G.refl _) | (with_reducible assumption) | (with_reducible refine G.drewN ?_ _) | (with_reducible refine G.drew ?_) | (with_reducible refine G.alloc ?_ _) | (with_reducible refine G.setCell ?_ (by first | (with_reducible exact Nat.le_refl _) | (simp; done) | (simp; omega) | omega) _) | (with_reducible refine G.trans ?_ (by assumption))))))))).mono ?_
      rintro r w4 ⟨rfl, hG4⟩
      have g24 : G w2 w4 := g23.trans (G.trans (by (repeat' (first | (with_reducible exact G.refl _) | (with_reducible refine G.drewN ?_ _) | (with_reducible refine G.drew ?_) | (with_reducible refine G.alloc ?_ _)))) hG4)
      rw [HCK.out]
      go_wp2_with fail
      refine (rDelete_any a2 l 20 c2 ev p q _ HN.out HK.out (H2.out.later (g2.trans (g24.trans (by (repeat' (first | (with_reducible exact G.refl _) | (with_reducible assumption) | (with_reducible refine G.drewN ?_ _) | (with_reducible refine G.drew ?_) | (with_reducible refine G.alloc ?_ _) | (with_reducible refine G.setCell ?_ (by first | (with_reducible exact Nat.le_refl _) | (simp; done) | (simp; omega) | omega) _) | (with_reducible refine G.trans ?_ (by assumption)))))))) HEV.out HKO.out.2.2.2.1 HI.out).mono ?_
      rintro r w5 ⟨v5, rfl, hR5, hG5⟩
      have g25 : G w2 w5 := g24.trans (G.trans (by (repeat' (first | (with_reducible exact G.refl _) | (with_reducible refine G.drewN ?_ _) | (with_reducible refine G.drew ?_) | (with_reducible refine G.alloc ?_ _)))) hG5)
      obtain ⟨a5, c5, rfl, hT5⟩ := hR5.tus
      rw [hdl.out]
      have H5 := Lib.hid hT5
      clear hR5 hT5
      go_wp2_with fail
      refine (same_same a3 a5 _ dl c3 c5 _ hdl.out (by have := HDL.out; omega) (H3.out.later (g25.trans (by (repeat' (first | (with_reducible exact G.refl _) | (with_reducible assumption) | (with_reducible refine G.drewN ?_ _) | (with_reducible refine G.drew ?_) | (with_reducible refine G.alloc ?_ _) | (with_reducible refine G.setCell ?_ (by first | (with_reducible exact Nat.le_refl _) | (simp; done) | (simp; omega) | omega) _) | (with_reducible refine G.trans ?_ (by assumption))))))) (H5.out.later (by (repeat' (first | (with_reducible exact G.refl _) | (with_reducible assumption) | (with_reducible refine G.drewN ?_ _) | (with_reducible refine G.drew ?_) | (with_reducible refine G.alloc ?_ _) | (with_reducible refine G.setCell ?_ (by first | (with_reducible exact Nat.le_refl _) | (simp; done) | (simp; omega) | omega) _) | (with_reducible refine G.trans ?_ (by assumption))))))).mono ?_
      rintro r w6 ⟨rfl, hG6⟩
      have g26 : G w2 w6 := g25.trans (G.trans (by (repeat' (first | (with_reducible exact G.refl _) | (with_reducible refine G.drewN ?_ _) | (with_reducible refine G.drew ?_) | (with_reducible refine G.alloc ?_ _)))) hG6)
      go_wp2_with fail
      refine (tCheck_any a3 _ dl c3 _ _ hdl.out (H3.out.later (g26.trans (by (repeat' (first | (with_reducible exact G.refl _) | (with_reducible assumption) | (with_reducible refine G.drewN ?_ _) | (with_reducible refine G.drew ?_) | (with_reducible refine G.alloc ?_ _) | (with_reducible refine G.setCell ?_ (by first | (with_reducible exact Nat.le_refl _) | (simp; done) | (simp; omega) | omega) _) | (with_reducible refine G.trans ?_ (by assumption))))))) HCBD.out).mono ?_
      rintro r w7 ⟨rfl, hG7⟩
      have g27 : G w2 w7 := g26.trans (G.trans (by (repeat' (first | (with_reducible exact G.refl _) | (with_reducible refine G.drewN ?_ _) | (with_reducible refine G.drew ?_) | (with_reducible refine G.alloc ?_ _)))) hG7)
      rw [HDS.out]
      go_wp2_with fail
      go_loopg [13] 20 (fun k x wr => ∃ i : Nat, x = .int .i64 i ∧ k = 20 - i ∧ i ≤ 20 ∧ G w2 wr)
      case atStart => exact ⟨0, rfl, by omega, by omega, g27.trans (by (repeat' (first | (with_reducible exact G.refl _) | (with_reducible assumption) | (with_reducible refine G.drewN ?_ _) | (with_reducible refine G.drew ?_) | (with_reducible refine G.alloc ?_ _) | (with_reducible refine G.setCell ?_ (by first | (with_reducible exact Nat.le_refl _) | (simp; done) | (simp; omega) | omega) _) | (with_reducible refine G.trans ?_ (by assumption)))))⟩
      case round =>
        obtain ⟨i, rfl, hq, hi, gr⟩ := hrel
        have HQ := Lib.hid hq
        clear hq
        by_cases hin2 : i < 20
        · obtain ⟨⟨f, cc, aa, nn⟩, hp⟩ : ∃ z, l[i]? = some z := ⟨l[i]'(by have := HN.out; omega), List.getElem?_eq_getElem (by have := HN.out; omega)⟩
          rcases H2.out with hz | ⟨b0, of, rfl, fc⟩
          · rw [hz] at hp; simp at hp
          obtain ⟨x0, x1, x2, x3⟩ := (fc i _ hp).later (g2.trans gr)
          dsimp only at x0 x1 x2 x3
          have hone := HKO.out.2.2.2.1 _ (List.mem_of_getElem? hp)
          have HO := Lib.hid (show (-9223372036854775808 ≤ f + cc ∧ f + cc ≤ 9223372036854775807) by have := HEV.out; unfold InR at hone; dsimp only at hone; omega)
          have b1 : (0 : Int) ≤ (i : Int) := by omega
          have b2 : (i : Int) < (20 : Int) := by omega
          have q1 := IntWalk.i64_in ((i : Int) + 1) (by have := HK.out; omega)
          clear fc hp hone
          by_cases hit : InT ⟨f, cc, aa, nn⟩ p
          · have HIT := Lib.hid hit
            clear hit
            by_cases hfp : f < p
            · go_wp2_with fail
              refine (rIn_any _ _ _ _ _ _ HO.out.1 HO.out.2).mono ?_
              rintro r w8 ⟨rfl, hG8⟩
              rw [decide_eq_true HIT.out]
              have g8 : G wr w8 := G.trans (by (repeat' (first | (with_reducible exact G.refl _) | (with_reducible refine G.drewN ?_ _) | (with_reducible refine G.drew ?_) | (with_reducible refine G.alloc ?_ _)))) hG8
              have y0 := g8.at x0
              clear x0 x1 x2 x3
              go_wp2_with fail
              go_ret
              exact ⟨by first | rfl | simp, g1.trans (g2.trans (gr.trans (g8.trans (by (repeat' (first | (with_reducible exact G.refl _) | (with_reducible assumption) | (with_reducible refine G.drewN ?_ _) | (with_reducible refine G.drew ?_) | (with_reducible refine G.alloc ?_ _) | (with_reducible refine G.setCell ?_ (by first | (with_reducible exact Nat.le_refl _) | (simp; done) | (simp; omega) | omega) _) | (with_reducible refine G.trans ?_ (by assumption))))))))⟩
            · go_wp2_with fail
              refine (rIn_any _ _ _ _ _ _ HO.out.1 HO.out.2).mono ?_
              rintro r w8 ⟨rfl, hG8⟩
              rw [decide_eq_true HIT.out]
              have g8 : G wr w8 := G.trans (by (repeat' (first | (with_reducible exact G.refl _) | (with_reducible refine G.drewN ?_ _) | (with_reducible refine G.drew ?_) | (with_reducible refine G.alloc ?_ _)))) hG8
              have y0 := g8.at x0
              clear x0 x1 x2 x3
              go_wp2_with fail
              go_roundg (20 - (i + 1))
              case measure => have := HQ.out; omega
              case rel => exact ⟨i + 1, by go_num, rfl, by omega, gr.trans (g8.trans (by (repeat' (first | (with_reducible exact G.refl _) | (with_reducible assumption) | (with_reducible refine G.drewN ?_ _) | (with_reducible refine G.drew ?_) | (with_reducible refine G.alloc ?_ _) | (with_reducible refine G.setCell ?_ (by first | (with_reducible exact Nat.le_refl _) | (simp; done) | (simp; omega) | omega) _) | (with_reducible refine G.trans ?_ (by assumption))))))⟩
          · have HIT := Lib.hid hit
            clear hit
            go_wp2_with fail
            refine (rIn_any _ _ _ _ _ _ HO.out.1 HO.out.2).mono ?_
            rintro r w8 ⟨rfl, hG8⟩
            rw [decide_eq_false HIT.out]
            have g8 : G wr w8 := G.trans (by (repeat' (first | (with_reducible exact G.refl _) | (with_reducible refine G.drewN ?_ _) | (with_reducible refine G.drew ?_) | (with_reducible refine G.alloc ?_ _)))) hG8
            clear x0 x1 x2 x3
            go_wp2_with fail
            go_roundg (20 - (i + 1))
            case measure => have := HQ.out; omega
            case rel => exact ⟨i + 1, by go_num, rfl, by omega, gr.trans (g8.trans (by (repeat' (first | (with_reducible exact G.refl _) | (with_reducible assumption) | (with_reducible refine G.drewN ?_ _) | (with_reducible refine G.drew ?_) | (with_reducible refine G.alloc ?_ _) | (with_reducible refine G.setCell ?_ (by first | (with_reducible exact Nat.le_refl _) | (simp; done) | (simp; omega) | omega) _) | (with_reducible refine G.trans ?_ (by assumption))))))⟩
        · have b2 : ¬ (i : Int) < (20 : Int) := by omega
          have gw2 : G w wr := g1.trans (g2.trans gr)
          by_cases k5 : q ≤ 128 - ev
          · have qd := IntWalk.i64_in (ev + q) (by omega)
            have HINS := Lib.hid (ckT_ins (cnt := q) HCK.out p0 p1 (by omega) (by omega))
            have HIE := Lib.hid (show insE l ev p q = 0 by unfold insE; rw [if_pos HCK.out, if_pos ⟨p0, p1, by omega, by omega⟩])
            have HDE := Lib.hid (show delE (l.map (insT p q)) (ev + q) p q = 0 by unfold delE; rw [if_pos HINS.out, if_pos ⟨p0, by omega, by omega⟩])
            have HBACK := Lib.hid (del_insL (at_ := p) (cnt := q) HCK.out (by omega))
            have HCB := Lib.hid (show CB (l.map (insT p q)) from fun t ht => by
              have h := (ckT_ok HINS.out).2.2.2.1 t ht
              have := (ckT_ok HINS.out).1
              unfold InR at h
              omega)
            have HML := Lib.hid (show (l.map (insT p q)).length = 20 by rw [List.length_map]; exact HN.out)
            go_wp2_with fail
            refine (tInsert_any a l 20 c ev p q _ HN.out HK.out (H1.out.later (gw2.trans (by (repeat' (first | (with_reducible exact G.refl _) | (with_reducible assumption) | (with_reducible refine G.drewN ?_ _) | (with_reducible refine G.drew ?_) | (with_reducible refine G.alloc ?_ _) | (with_reducible refine G.setCell ?_ (by first | (with_reducible exact Nat.le_refl _) | (simp; done) | (simp; omega) | omega) _) | (with_reducible refine G.trans ?_ (by assumption))))))) HC.out HZ.out).mono ?_
            rintro r w8 ⟨v8, rfl, hI8, hG8⟩
            have g8 : G wr w8 := G.trans (by (repeat' (first | (with_reducible exact G.refl _) | (with_reducible refine G.drewN ?_ _) | (with_reducible refine G.drew ?_) | (with_reducible refine G.alloc ?_ _)))) hG8
            unfold InsR at hI8
            rw [if_pos HIE.out] at hI8
            obtain ⟨a8, c8, rfl, hT8⟩ := hI8
            have H8 := Lib.hid hT8
            rw [HIE.out, HN.out]
            clear hT8
            go_wp2_with fail
            refine (tDelete_any a8 _ 20 c8 (ev + q) p q _ HML.out HK.out (H8.out.later (by (repeat' (first | (with_reducible exact G.refl _) | (with_reducible assumption) | (with_reducible refine G.drewN ?_ _) | (with_reducible refine G.drew ?_) | (with_reducible refine G.alloc ?_ _) | (with_reducible refine G.setCell ?_ (by first | (with_reducible exact Nat.le_refl _) | (simp; done) | (simp; omega) | omega) _) | (with_reducible refine G.trans ?_ (by assumption)))))) HCB.out HPB.out).mono ?_
            rintro r w9 ⟨v9, rfl, hD9, hG9⟩
            have g9 : G wr w9 := g8.trans (G.trans (by (repeat' (first | (with_reducible exact G.refl _) | (with_reducible refine G.drewN ?_ _) | (with_reducible refine G.drew ?_) | (with_reducible refine G.alloc ?_ _)))) hG9)
            unfold DelR at hD9
            rw [if_pos HDE.out, HBACK.out] at hD9
            obtain ⟨a9, c9, rfl, hT9⟩ := hD9
            have H9 := Lib.hid hT9
            rw [HDE.out, HN.out]
            clear hT9
            go_wp2_with fail
            refine (tEqual_any a9 a l l 20 20 c9 c _ HN.out HN.out (by have := HK.out; omega) (H9.out.later (by (repeat' (first | (with_reducible exact G.refl _) | (with_reducible assumption) | (with_reducible refine G.drewN ?_ _) | (with_reducible refine G.drew ?_) | (with_reducible refine G.alloc ?_ _) | (with_reducible refine G.setCell ?_ (by first | (with_reducible exact Nat.le_refl _) | (simp; done) | (simp; omega) | omega) _) | (with_reducible refine G.trans ?_ (by assumption)))))) (H1.out.later (gw2.trans (g9.trans (by (repeat' (first | (with_reducible exact G.refl _) | (with_reducible assumption) | (with_reducible refine G.drewN ?_ _) | (with_reducible refine G.drew ?_) | (with_reducible refine G.alloc ?_ _) | (with_reducible refine G.setCell ?_ (by first | (with_reducible exact Nat.le_refl _) | (simp; done) | (simp; omega) | omega) _) | (with_reducible refine G.trans ?_ (by assumption))))))))).mono ?_
            rintro r w10 ⟨rfl, hG10⟩
            have g10 : G wr w10 := g9.trans (G.trans (by (repeat' (first | (with_reducible exact G.refl _) | (with_reducible refine G.drewN ?_ _) | (with_reducible refine G.drew ?_) | (with_reducible refine G.alloc ?_ _)))) hG10)
            rw [decide_eq_true (show l = l from rfl)]
            go_wp2_with fail
            go_ret
            exact ⟨by first | rfl | simp, gw2.trans (g10.trans (by (repeat' (first | (with_reducible exact G.refl _) | (with_reducible assumption) | (with_reducible refine G.drewN ?_ _) | (with_reducible refine G.drew ?_) | (with_reducible refine G.alloc ?_ _) | (with_reducible refine G.setCell ?_ (by first | (with_reducible exact Nat.le_refl _) | (simp; done) | (simp; omega) | omega) _) | (with_reducible refine G.trans ?_ (by assumption))))))⟩
          · have qd := IntWalk.i64_in (ev + (128 - ev)) (by omega)
            have HINS := Lib.hid (ckT_ins (cnt := (128 - ev)) HCK.out p0 p1 (by omega) (by omega))
            have HIE := Lib.hid (show insE l ev p (128 - ev) = 0 by unfold insE; rw [if_pos HCK.out, if_pos ⟨p0, p1, by omega, by omega⟩])
            have HDE := Lib.hid (show delE (l.map (insT p (128 - ev))) (ev + (128 - ev)) p (128 - ev) = 0 by unfold delE; rw [if_pos HINS.out, if_pos ⟨p0, by omega, by omega⟩])
            have HBACK := Lib.hid (del_insL (at_ := p) (cnt := (128 - ev)) HCK.out (by omega))
            have HCB := Lib.hid (show CB (l.map (insT p (128 - ev))) from fun t ht => by
              have h := (ckT_ok HINS.out).2.2.2.1 t ht
              have := (ckT_ok HINS.out).1
              unfold InR at h
              omega)
            have HML := Lib.hid (show (l.map (insT p (128 - ev))).length = 20 by rw [List.length_map]; exact HN.out)
            go_wp2_with fail
            refine (tInsert_any a l 20 c ev p (128 - ev) _ HN.out HK.out (H1.out.later (gw2.trans (by (repeat' (first | (with_reducible exact G.refl _) | (with_reducible assumption) | (with_reducible refine G.drewN ?_ _) | (with_reducible refine G.drew ?_) | (with_reducible refine G.alloc ?_ _) | (with_reducible refine G.setCell ?_ (by first | (with_reducible exact Nat.le_refl _) | (simp; done) | (simp; omega) | omega) _) | (with_reducible refine G.trans ?_ (by assumption))))))) HC.out HZ.out).mono ?_
            rintro r w8 ⟨v8, rfl, hI8, hG8⟩
            have g8 : G wr w8 := G.trans (by (repeat' (first | (with_reducible exact G.refl _) | (with_reducible refine G.drewN ?_ _) | (with_reducible refine G.drew ?_) | (with_reducible refine G.alloc ?_ _)))) hG8
            unfold InsR at hI8
            rw [if_pos HIE.out] at hI8
            obtain ⟨a8, c8, rfl, hT8⟩ := hI8
            have H8 := Lib.hid hT8
            rw [HIE.out, HN.out]
            clear hT8
            go_wp2_with fail
            refine (tDelete_any a8 _ 20 c8 (ev + (128 - ev)) p (128 - ev) _ HML.out HK.out (H8.out.later (by (repeat' (first | (with_reducible exact G.refl _) | (with_reducible assumption) | (with_reducible refine G.drewN ?_ _) | (with_reducible refine G.drew ?_) | (with_reducible refine G.alloc ?_ _) | (with_reducible refine G.setCell ?_ (by first | (with_reducible exact Nat.le_refl _) | (simp; done) | (simp; omega) | omega) _) | (with_reducible refine G.trans ?_ (by assumption)))))) HCB.out HPB.out).mono ?_
            rintro r w9 ⟨v9, rfl, hD9, hG9⟩
            have g9 : G wr w9 := g8.trans (G.trans (by (repeat' (first | (with_reducible exact G.refl _) | (with_reducible refine G.drewN ?_ _) | (with_reducible refine G.drew ?_) | (with_reducible refine G.alloc ?_ _)))) hG9)
            unfold DelR at hD9
            rw [if_pos HDE.out, HBACK.out] at hD9
            obtain ⟨a9, c9, rfl, hT9⟩ := hD9
            have H9 := Lib.hid hT9
            rw [HDE.out, HN.out]
            clear hT9
            go_wp2_with fail
            refine (tEqual_any a9 a l l 20 20 c9 c _ HN.out HN.out (by have := HK.out; omega) (H9.out.later (by (repeat' (first | (with_reducible exact G.refl _) | (with_reducible assumption) | (with_reducible refine G.drewN ?_ _) | (with_reducible refine G.drew ?_) | (with_reducible refine G.alloc ?_ _) | (with_reducible refine G.setCell ?_ (by first | (with_reducible exact Nat.le_refl _) | (simp; done) | (simp; omega) | omega) _) | (with_reducible refine G.trans ?_ (by assumption)))))) (H1.out.later (gw2.trans (g9.trans (by (repeat' (first | (with_reducible exact G.refl _) | (with_reducible assumption) | (with_reducible refine G.drewN ?_ _) | (with_reducible refine G.drew ?_) | (with_reducible refine G.alloc ?_ _) | (with_reducible refine G.setCell ?_ (by first | (with_reducible exact Nat.le_refl _) | (simp; done) | (simp; omega) | omega) _) | (with_reducible refine G.trans ?_ (by assumption))))))))).mono ?_
            rintro r w10 ⟨rfl, hG10⟩
            have g10 : G wr w10 := g9.trans (G.trans (by (repeat' (first | (with_reducible exact G.refl _) | (with_reducible refine G.drewN ?_ _) | (with_reducible refine G.drew ?_) | (with_reducible refine G.alloc ?_ _)))) hG10)
            rw [decide_eq_true (show l = l from rfl)]
            go_wp2_with fail
            go_ret
            exact ⟨by first | rfl | simp, gw2.trans (g10.trans (by (repeat' (first | (with_reducible exact G.refl _) | (with_reducible assumption) | (with_reducible refine G.drewN ?_ _) | (with_reducible refine G.drew ?_) | (with_reducible refine G.alloc ?_ _) | (with_reducible refine G.setCell ?_ (by first | (with_reducible exact Nat.le_refl _) | (simp; done) | (simp; omega) | omega) _) | (with_reducible refine G.trans ?_ (by assumption))))))⟩

/-! ### the row and the card -/
open Go.ChangeShapes Go.WideShapes Go.ChangeAt Go.RowKit
set_option maxRecDepth 100000 in
theorem tupletDeletes_lifted (os : Os) (started : os.Started) (H : Type) (enc : TypeId × Value → H) :
    ReturnsInHanded {} Try.checked os 12 .any (Rows.tupletDeletesSpec.pre6 enc Try.prog Try.f12 Rows.tupletDeletesRow.domain false)
      (Rows.tupletDeletesSpec.post enc Try.prog Try.f12 false true false false) := by
  refine returnsInHanded_of_change (C := Try.checked) own started (by kernel_rfl) Try.func12
    (ChangeSpec.witness6 (enc := enc) (C := Try.checked) false ⟨#[], #[.slice none 0 0, .int .i64 0, .agg #[.int .i64 0, .int .i64 0]], []⟩ 8 (by kernel_rfl) (by kernel_rfl) (by kernel_rfl) (by kernel_rfl)) ?_
  intro W base args ds gs before hval0 hW _ _
  have hval : ∀ (j : Nat) t v, Try.f12.params[j]? = some t → args[j]? = some v → Value.okWide Try.prog W .any base t v := hval0
  have hW' := hW
  obtain ⟨p, q, hA0, hV, rfl, hfz, hnd⟩ := hW
  have hA : DataW.TrodAll enc Try.prog W 0 (fun _ => true) true Try.f12.params.toList args.toList ds p := hA0
  rw [Try.params12] at hA hval
  obtain ⟨v0, vs0, d0, ds0, p0, q0, hargs, rfl, rfl, h0, r0⟩ := trodAll_cons hA
  obtain ⟨v1, vs1, d1, ds1, p1, q1, rfl, rfl, rfl, h1, r1⟩ := trodAll_cons r0
  obtain ⟨v2, vs2, d2, ds2, p2, q2, rfl, rfl, rfl, h2, r2⟩ := trodAll_cons r1
  obtain ⟨rfl, rfl, rfl⟩ := trodAll_nil r2
  obtain rfl : args = #[v0, v1, v2] := by cases args; simp_all
  obtain ⟨rfl, rfl⟩ := trodVars_none hV
  have keep0 := h0
  obtain ⟨a0, cap0, l0, rfl, lc0, mc0, la0, wf0, lz0⟩ := open_tusArg (hval 0 22 v0 rfl rfl) h0
  obtain ⟨a1, rfl, rfl, rfl, w1⟩ := open_int Try.underlying3 (hval 1 3 v1 rfl rfl) h1
  obtain ⟨bl1, bh1⟩ := bounds_i64 w1
  obtain ⟨a2, b2, rfl, rfl, rfl, w2, u2⟩ := open_arr2 (hval 2 58 v2 rfl rfl) h2
  obtain ⟨bl2, bh2⟩ := bounds_i64 w2
  obtain ⟨cl2, ch2⟩ := bounds_i64 u2
  clear hA0 hval0
  simp only [List.append_nil] at hW'
  have hlt0 : ∀ x ∈ p0, x.block < W.heap.size := fun x hx => by have := hW'.lt x (by simp [hx]); simpa using this
  refine (deletes_walk a0 l0 cap0 a1 a2 b2 W lc0 mc0 la0 lz0 wf0 bl1 bh1 bl2 bh2 cl2 ch2  ).mono fun e W' ⟨he, hg⟩ => ?_
  subst he
  exact ⟨_, rfl, _, _, _, [], (p0 ++ ([] ++ ([] ++ []))), [], hW', (trodAll_cons_mk (shut_bool Try.underlying4 _) trodAll_mk0), (trodAll_cons_mk (Below.trod (by kernel_rfl) (by kernel_rfl) (of_decide_eq_true (by kernel_rfl)) keep0 hg hlt0) (trodAll_cons_mk (shut_int Try.underlying3 w1) (trodAll_cons_mk (shut_arr2 w2 u2) trodAll_mk0))), rfl, Below.frame hg _, fun h => by cases h⟩

theorem tupletDeletes_holds : Rows.TupletDeletesSaid :=
  OpenClaim.holds_of_wide 12 Try.f12 rfl rfl rfl rfl rfl rfl rfl ⟨rfl, rfl, rfl, rfl, rfl⟩ rfl rfl rfl rfl rfl (by kernel_rfl) Try.func12 (by kernel_rfl)
    (of_decide_eq_true (by kernel_rfl)) (by unfold Func.isWrapper; first | (rw [if_pos (by decide +kernel)]; kernel_rfl) | (rw [if_neg (by decide +kernel)]; exact ⟨rfl, rfl⟩))
    (fun os started H enc _ => tupletDeletes_lifted os started H enc)

#print axioms tupletDeletes_holds
end Go.Proofs.Ytabaiklagobimaa
