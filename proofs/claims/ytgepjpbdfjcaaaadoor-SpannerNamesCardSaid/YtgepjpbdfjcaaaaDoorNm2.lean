import Derived.Test.YtgepjpbdfjcaaaaDoorS21
/-! Spanners: names, case by case. -/
namespace Go.Proofs.YtgepjpbdfjcaaaaDoor
open Go.RowKit
attribute [local go_sem] World.cell?_alloc_some

set_option maxRecDepth 100000 in
set_option maxHeartbeats 12800000 in
theorem names_in_l (c : Int) (s : ByteArray) (w : World) (hk : 1 ≤ c ∧ c ≤ 7) (hs : 30 < (s.size : Int)) (hT : Tab w) :
    Calls Tryd.prog 11 #[.int .i64 c, .string s] w fun e w' => e = .returned (.bool true) ∧ G w w' := by
  have HT := Lib.hid hT
  clear hT
  · obtain ⟨M, hM⟩ : ∃ z : ByteArray, Hid (z = nmK c) := ⟨_, rfl⟩
    obtain ⟨kn, hkn⟩ : ∃ z : Nat, c = (z : Int) + 1 := ⟨(c - 1).toNat, by omega⟩
    subst hkn
    have HKN := Lib.hid (show kn < 7 by omega)
    have HKM := Lib.hid (show nmS ((kn : Int) + 1) = M by rw [hM.out]; exact (if_pos hk).symm)
    have b1 : (0 : Int) ≤ (kn : Int) := by omega
    have b2 : (kn : Int) < 7 := by omega
    have q0 := IntWalk.i64_in ((kn : Int) + 1 - 1) (by omega)
    have q9 : (kn : Int) + 1 - 1 = (kn : Int) := by omega
    have d3 : decide (1 ≤ (kn : Int) + 1) = true := decide_eq_true hk.1
    have d4 : decide ((kn : Int) + 1 ≤ 7) = true := decide_eq_true hk.2
    have d5 := hk.1
    have d6 := hk.2
    clear hk
    go_enter Tryd.func11, Tryd.ntmps11
    go_wp2_with fail
    obtain ⟨L, HL⟩ : ∃ L : ByteArray, Hid (L = (s.extract 0 30)) := ⟨_, rfl⟩
    rw [← HL.out]
    obtain ⟨R, hR⟩ : ∃ z : Int, Hid (z = fk L.data.toList) := ⟨_, rfl⟩
    have RB := Lib.hid (show 0 ≤ R ∧ R ≤ 7 by rw [hR.out]; exact fk_bd _)
    obtain ⟨S, hS⟩ : ∃ z : Int, Hid (z = if R = 0 then 32 else 0) := ⟨_, rfl⟩
    refine (rNames_any _).mono ?_
    rintro e w1 ⟨g1, rfl, hN1, hG1⟩
    have u1 := hN1.out kn HKN.out
    rw [HKM.out] at u1
    go_wp2_with fail
    refine (sParse_any L _ (HT.out.later (by (repeat' (first | (with_reducible exact G.refl _) | (with_reducible assumption) | (with_reducible refine G.drewN ?_ _) | (with_reducible refine G.drew ?_) | (with_reducible refine G.alloc ?_ _) | (with_reducible refine G.setCell ?_ (by first | (with_reducible exact Nat.le_refl _) | (simp; done) | (simp; omega) | omega) _) | (with_reducible refine G.trans ?_ (by assumption))))))).mono ?_
    rintro e w2 ⟨rfl, hG2⟩
    rw [← hR.out, ← hS.out]
    have g2 : G w w2 := by (repeat' (first | (with_reducible exact G.refl _) | (with_reducible assumption) | (with_reducible refine G.drewN ?_ _) | (with_reducible refine G.drew ?_) | (with_reducible refine G.alloc ?_ _) | (with_reducible refine G.setCell ?_ (by first | (with_reducible exact Nat.le_refl _) | (simp; done) | (simp; omega) | omega) _) | (with_reducible refine G.trans ?_ (by assumption))))
    go_wp2_with fail
    go_loopg [8, 9] 7 (fun k y x wr => ∃ (i : Nat) (W : Int), y = .int .i64 W ∧ x = .int .i64 i ∧ Hid (W = if R ≤ (i : Int) then R else 0) ∧ k = 7 - i ∧ i ≤ 7 ∧ G w wr)
    case atStart => exact ⟨0, 0, rfl, rfl, Lib.hid (by have := RB.out; split <;> omega), rfl, by omega, by (repeat' (first | (with_reducible exact G.refl _) | (with_reducible assumption) | (with_reducible refine G.drewN ?_ _) | (with_reducible refine G.drew ?_) | (with_reducible refine G.alloc ?_ _) | (with_reducible refine G.setCell ?_ (by first | (with_reducible exact Nat.le_refl _) | (simp; done) | (simp; omega) | omega) _) | (with_reducible refine G.trans ?_ (by assumption))))⟩
    case round =>
      obtain ⟨i, W, rfl, rfl, hW, hg, hi, gr⟩ := hrel
      have HG := Lib.hid hg
      clear hg
      by_cases h7 : i < 7
      · have b1 : (0 : Int) ≤ (i : Int) := by omega
        have b2 : (i : Int) < 7 := by omega
        have q1 := IntWalk.i64_in ((i : Int) + 1) (by omega)
        have hbq := nm_beq h7 L
        rw [← hR.out] at hbq
        have HI := Lib.hid h7
        go_wp2_with fail
        refine (rNames_any _).mono ?_
        rintro e w3 ⟨g, rfl, hN, hG3⟩
        have u0 := hN.out i HI.out
        obtain ⟨N, hN2⟩ : ∃ z : ByteArray, Hid (z = nmS ((i : Int) + 1)) := ⟨_, rfl⟩
        rw [← hN2.out] at u0 hbq
        by_cases c : R = (i : Int) + 1
        · rw [decide_eq_true c] at hbq
          have HC := Lib.hid c
          clear c
          go_wp2_with fail
          go_roundg (7 - (i + 1))
          case measure => have := HG.out; have := HI.out; omega
          case rel => exact ⟨i + 1, (i : Int) + 1, by go_num, by go_num, Lib.hid (by have := HC.out; rw [if_pos (by push_cast; omega)]; omega), rfl, by have := HI.out; omega, by (repeat' (first | (with_reducible exact G.refl _) | (with_reducible assumption) | (with_reducible refine G.drewN ?_ _) | (with_reducible refine G.drew ?_) | (with_reducible refine G.alloc ?_ _) | (with_reducible refine G.setCell ?_ (by first | (with_reducible exact Nat.le_refl _) | (simp; done) | (simp; omega) | omega) _) | (with_reducible refine G.trans ?_ (by assumption))))⟩
        · rw [decide_eq_false c] at hbq
          have HC := Lib.hid c
          clear c
          go_wp2_with fail
          go_roundg (7 - (i + 1))
          case measure => have := HG.out; have := HI.out; omega
          case rel => exact ⟨i + 1, W, rfl, by go_num, Lib.hid (by have h1 := HC.out; have h2 := hW.out; rw [h2]; push_cast; split <;> split <;> omega), rfl, by have := HI.out; omega, by (repeat' (first | (with_reducible exact G.refl _) | (with_reducible assumption) | (with_reducible refine G.drewN ?_ _) | (with_reducible refine G.drew ?_) | (with_reducible refine G.alloc ?_ _) | (with_reducible refine G.setCell ?_ (by first | (with_reducible exact Nat.le_refl _) | (simp; done) | (simp; omega) | omega) _) | (with_reducible refine G.trans ?_ (by assumption))))⟩
      · have hii : i = 7 := by omega
        subst hii
        have hWR : W = R := by have h1 := hW.out; have h2 := RB.out; rw [if_pos (by omega)] at h1; exact h1
        subst hWR
        go_wp2_with fail
        refine (known_any _ (HT.out.later (by (repeat' (first | (with_reducible exact G.refl _) | (with_reducible assumption) | (with_reducible refine G.drewN ?_ _) | (with_reducible refine G.drew ?_) | (with_reducible refine G.alloc ?_ _) | (with_reducible refine G.setCell ?_ (by first | (with_reducible exact Nat.le_refl _) | (simp; done) | (simp; omega) | omega) _) | (with_reducible refine G.trans ?_ (by assumption))))))).mono ?_
        rintro e w4 ⟨rfl, hG4⟩
        go_wp2_with fail
        refine (sName_any _ _ (HT.out.later (by (repeat' (first | (with_reducible exact G.refl _) | (with_reducible assumption) | (with_reducible refine G.drewN ?_ _) | (with_reducible refine G.drew ?_) | (with_reducible refine G.alloc ?_ _) | (with_reducible refine G.setCell ?_ (by first | (with_reducible exact Nat.le_refl _) | (simp; done) | (simp; omega) | omega) _) | (with_reducible refine G.trans ?_ (by assumption))))))).mono ?_
        rintro e w5 ⟨rfl, rfl⟩
        rw [← hM.out]
        have hbb : (M.toList == M.toList) = true := by simp
        by_cases c0 : W = 0
        · subst c0
          have HS0 := hS.out
          rw [if_pos rfl] at HS0
          subst HS0
          go_wp2_with fail
          go_ret
          exact ⟨by first | done | rfl | simp, by (repeat' (first | (with_reducible exact G.refl _) | (with_reducible assumption) | (with_reducible refine G.drewN ?_ _) | (with_reducible refine G.drew ?_) | (with_reducible refine G.alloc ?_ _) | (with_reducible refine G.setCell ?_ (by first | (with_reducible exact Nat.le_refl _) | (simp; done) | (simp; omega) | omega) _) | (with_reducible refine G.trans ?_ (by assumption))))⟩
        · have HS0 := hS.out
          rw [if_neg c0] at HS0
          subst HS0
          have d1 : 0 < W := by have := RB.out; omega
          have d2 : decide (0 < W) = true := decide_eq_true d1
          clear c0
          go_wp2_with fail
          go_ret
          exact ⟨by first | done | rfl | simp, by (repeat' (first | (with_reducible exact G.refl _) | (with_reducible assumption) | (with_reducible refine G.drewN ?_ _) | (with_reducible refine G.drew ?_) | (with_reducible refine G.alloc ?_ _) | (with_reducible refine G.setCell ?_ (by first | (with_reducible exact Nat.le_refl _) | (simp; done) | (simp; omega) | omega) _) | (with_reducible refine G.trans ?_ (by assumption))))⟩
end Go.Proofs.YtgepjpbdfjcaaaaDoor
