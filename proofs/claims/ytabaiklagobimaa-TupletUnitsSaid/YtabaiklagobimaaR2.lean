import Derived.Test.YtabaiklagobimaaR1
/-! Tuplets: the reference's Check. -/
namespace Go.Proofs.Ytabaiklagobimaa
open Go.RowKit
attribute [local go_sem] World.cell?_alloc_some

set_option maxRecDepth 100000 in
set_option maxHeartbeats 25600000 in
theorem rCheck_any (a : Option Addr) (l : List Tu) (n c : Nat) (ev : Int) (w : World) (hn : l.length = n) (h1 : TusAt w a l) :
    Calls Try.prog 15 #[.slice a n c, .int .i64 ev] w fun e w' => e = .returned (.int .i64 (ckT ev l)) ∧ G w w' := by
  subst hn
  have H1 := Lib.hid h1
  clear h1
  obtain ⟨R, hR⟩ : ∃ z : Int, Hid (z = ckT ev l) := ⟨_, rfl⟩
  rw [← hR.out]
  by_cases e1 : ev < 0
  · have HR := Lib.hid (show R = 2 by rw [hR.out]; exact if_neg (by omega))
    go_enter Try.func15, Try.ntmps15
    go_wp2_with fail
    go_ret
    exact ⟨by rw [HR.out]; rfl, by (repeat' (first | (with_reducible exact G.refl _) | (with_reducible assumption) | (with_reducible refine G.drewN ?_ _) | (with_reducible refine G.drew ?_) | (with_reducible refine G.alloc ?_ _) | (with_reducible refine G.setCell ?_ (by first | (with_reducible exact Nat.le_refl _) | (simp; done) | (simp; omega) | omega) _) | (with_reducible refine G.trans ?_ (by assumption))))⟩
  by_cases e2 : 128 < ev
  · have HR := Lib.hid (show R = 2 by rw [hR.out]; exact if_neg (by omega))
    go_enter Try.func15, Try.ntmps15
    go_wp2_with fail
    go_ret
    exact ⟨by rw [HR.out]; rfl, by (repeat' (first | (with_reducible exact G.refl _) | (with_reducible assumption) | (with_reducible refine G.drewN ?_ _) | (with_reducible refine G.drew ?_) | (with_reducible refine G.alloc ?_ _) | (with_reducible refine G.setCell ?_ (by first | (with_reducible exact Nat.le_refl _) | (simp; done) | (simp; omega) | omega) _) | (with_reducible refine G.trans ?_ (by assumption))))⟩
  by_cases e3 : 16 < (l.length : Int)
  · have HR := Lib.hid (show R = 9 by rw [hR.out]; unfold ckT; rw [if_pos (by omega), if_neg (by omega)])
    go_enter Try.func15, Try.ntmps15
    go_wp2_with fail
    go_ret
    exact ⟨by rw [HR.out]; rfl, by (repeat' (first | (with_reducible exact G.refl _) | (with_reducible assumption) | (with_reducible refine G.drewN ?_ _) | (with_reducible refine G.drew ?_) | (with_reducible refine G.alloc ?_ _) | (with_reducible refine G.setCell ?_ (by first | (with_reducible exact Nat.le_refl _) | (simp; done) | (simp; omega) | omega) _) | (with_reducible refine G.trans ?_ (by assumption))))⟩
  have HR0 := Lib.hid (show R = goP ev none [] l by rw [hR.out]; unfold ckT; rw [if_pos (by omega), if_pos (by omega)])
  clear hR
  have HL := Lib.hid (show l.length ≤ 16 by omega)
  go_enter Try.func15, Try.ntmps15
  go_wp2_with fail
  go_loopg [5] l.length (fun q x wr => ∃ i : Nat, x = .int .i64 i ∧ q = l.length - i ∧ i ≤ l.length ∧ Hid (At ev l i) ∧ Hid (∀ k t, k < i → l[k]? = some t → InR ev t) ∧ G w wr)
  case atStart => exact ⟨0, rfl, by omega, by omega, Lib.hid (At.zero _ _), Lib.hid (fun k t h => by omega), by (repeat' (first | (with_reducible exact G.refl _) | (with_reducible assumption) | (with_reducible refine G.drewN ?_ _) | (with_reducible refine G.drew ?_) | (with_reducible refine G.alloc ?_ _) | (with_reducible refine G.setCell ?_ (by first | (with_reducible exact Nat.le_refl _) | (simp; done) | (simp; omega) | omega) _) | (with_reducible refine G.trans ?_ (by assumption))))⟩
  case round =>
    obtain ⟨i, rfl, hq, hi, hA, hI, gr⟩ := hrel
    have HQ := Lib.hid hq
    clear hq
    by_cases hin : i < l.length
    · obtain ⟨⟨f, cc, aa, nn⟩, hp⟩ : ∃ z, l[i]? = some z := ⟨l[i], List.getElem?_eq_getElem hin⟩
      rcases H1.out with hz | ⟨b0, of, rfl, fc⟩
      · rw [hz] at hin; exact absurd hin (by simp)
      have FC := Lib.hid fc
      obtain ⟨x0, x1, x2, x3⟩ := (fc i _ hp).later gr
      dsimp only at x0 x1 x2 x3
      have HP := Lib.hid hp
      have b1 : (0 : Int) ≤ (i : Int) := by omega
      have b2 : (i : Int) < (l.length : Int) := by omega
      have q1 := IntWalk.i64_in ((i : Int) + 1) (by omega)
      have HIN := Lib.hid (show InR ev ⟨f, cc, aa, nn⟩ ↔ 1 ≤ cc ∧ 0 ≤ f ∧ f ≤ ev - cc ∧ Rt aa ∧ Rt nn ∧ aa ≠ nn from Iff.rfl)
      clear fc hp
      by_cases r1 : cc < 1
      · have HR := Lib.hid (show R = 2 by rw [HR0.out, hA.out.rest]; exact go_bad HP.out (fun k => by have := HIN.out.1 k; unfold Rt at this; omega))
        go_wp2_with fail
        go_ret
        exact ⟨by rw [HR.out]; rfl, by (repeat' (first | (with_reducible exact G.refl _) | (with_reducible assumption) | (with_reducible refine G.drewN ?_ _) | (with_reducible refine G.drew ?_) | (with_reducible refine G.alloc ?_ _) | (with_reducible refine G.setCell ?_ (by first | (with_reducible exact Nat.le_refl _) | (simp; done) | (simp; omega) | omega) _) | (with_reducible refine G.trans ?_ (by assumption))))⟩
      by_cases r2 : ev < cc
      · have HR := Lib.hid (show R = 2 by rw [HR0.out, hA.out.rest]; exact go_bad HP.out (fun k => by have := HIN.out.1 k; unfold Rt at this; omega))
        go_wp2_with fail
        go_ret
        exact ⟨by rw [HR.out]; rfl, by (repeat' (first | (with_reducible exact G.refl _) | (with_reducible assumption) | (with_reducible refine G.drewN ?_ _) | (with_reducible refine G.drew ?_) | (with_reducible refine G.alloc ?_ _) | (with_reducible refine G.setCell ?_ (by first | (with_reducible exact Nat.le_refl _) | (simp; done) | (simp; omega) | omega) _) | (with_reducible refine G.trans ?_ (by assumption))))⟩
      have q2 := IntWalk.i64_in (ev - cc) (by omega)
      by_cases r3 : f < 0
      · have HR := Lib.hid (show R = 2 by rw [HR0.out, hA.out.rest]; exact go_bad HP.out (fun k => by have := HIN.out.1 k; unfold Rt at this; omega))
        go_wp2_with fail
        go_ret
        exact ⟨by rw [HR.out]; rfl, by (repeat' (first | (with_reducible exact G.refl _) | (with_reducible assumption) | (with_reducible refine G.drewN ?_ _) | (with_reducible refine G.drew ?_) | (with_reducible refine G.alloc ?_ _) | (with_reducible refine G.setCell ?_ (by first | (with_reducible exact Nat.le_refl _) | (simp; done) | (simp; omega) | omega) _) | (with_reducible refine G.trans ?_ (by assumption))))⟩
      by_cases r4 : ev - cc < f
      · have HR := Lib.hid (show R = 2 by rw [HR0.out, hA.out.rest]; exact go_bad HP.out (fun k => by have := HIN.out.1 k; unfold Rt at this; omega))
        go_wp2_with fail
        go_ret
        exact ⟨by rw [HR.out]; rfl, by (repeat' (first | (with_reducible exact G.refl _) | (with_reducible assumption) | (with_reducible refine G.drewN ?_ _) | (with_reducible refine G.drew ?_) | (with_reducible refine G.alloc ?_ _) | (with_reducible refine G.setCell ?_ (by first | (with_reducible exact Nat.le_refl _) | (simp; done) | (simp; omega) | omega) _) | (with_reducible refine G.trans ?_ (by assumption))))⟩
      by_cases r5 : aa < 1
      · have HR := Lib.hid (show R = 2 by rw [HR0.out, hA.out.rest]; exact go_bad HP.out (fun k => by have := HIN.out.1 k; unfold Rt at this; omega))
        go_wp2_with fail
        go_ret
        exact ⟨by rw [HR.out]; rfl, by (repeat' (first | (with_reducible exact G.refl _) | (with_reducible assumption) | (with_reducible refine G.drewN ?_ _) | (with_reducible refine G.drew ?_) | (with_reducible refine G.alloc ?_ _) | (with_reducible refine G.setCell ?_ (by first | (with_reducible exact Nat.le_refl _) | (simp; done) | (simp; omega) | omega) _) | (with_reducible refine G.trans ?_ (by assumption))))⟩
      by_cases r6 : 32 < aa
      · have HR := Lib.hid (show R = 2 by rw [HR0.out, hA.out.rest]; exact go_bad HP.out (fun k => by have := HIN.out.1 k; unfold Rt at this; omega))
        go_wp2_with fail
        go_ret
        exact ⟨by rw [HR.out]; rfl, by (repeat' (first | (with_reducible exact G.refl _) | (with_reducible assumption) | (with_reducible refine G.drewN ?_ _) | (with_reducible refine G.drew ?_) | (with_reducible refine G.alloc ?_ _) | (with_reducible refine G.setCell ?_ (by first | (with_reducible exact Nat.le_refl _) | (simp; done) | (simp; omega) | omega) _) | (with_reducible refine G.trans ?_ (by assumption))))⟩
      by_cases r7 : nn < 1
      · have HR := Lib.hid (show R = 2 by rw [HR0.out, hA.out.rest]; exact go_bad HP.out (fun k => by have := HIN.out.1 k; unfold Rt at this; omega))
        go_wp2_with fail
        go_ret
        exact ⟨by rw [HR.out]; rfl, by (repeat' (first | (with_reducible exact G.refl _) | (with_reducible assumption) | (with_reducible refine G.drewN ?_ _) | (with_reducible refine G.drew ?_) | (with_reducible refine G.alloc ?_ _) | (with_reducible refine G.setCell ?_ (by first | (with_reducible exact Nat.le_refl _) | (simp; done) | (simp; omega) | omega) _) | (with_reducible refine G.trans ?_ (by assumption))))⟩
      by_cases r8 : 32 < nn
      · have HR := Lib.hid (show R = 2 by rw [HR0.out, hA.out.rest]; exact go_bad HP.out (fun k => by have := HIN.out.1 k; unfold Rt at this; omega))
        go_wp2_with fail
        go_ret
        exact ⟨by rw [HR.out]; rfl, by (repeat' (first | (with_reducible exact G.refl _) | (with_reducible assumption) | (with_reducible refine G.drewN ?_ _) | (with_reducible refine G.drew ?_) | (with_reducible refine G.alloc ?_ _) | (with_reducible refine G.setCell ?_ (by first | (with_reducible exact Nat.le_refl _) | (simp; done) | (simp; omega) | omega) _) | (with_reducible refine G.trans ?_ (by assumption))))⟩
      by_cases r9 : aa = nn
      · have HR := Lib.hid (show R = 2 by rw [HR0.out, hA.out.rest]; exact go_bad HP.out (fun k => by have := HIN.out.1 k; unfold Rt at this; omega))
        go_wp2_with fail
        go_ret
        exact ⟨by rw [HR.out]; rfl, by (repeat' (first | (with_reducible exact G.refl _) | (with_reducible assumption) | (with_reducible refine G.drewN ?_ _) | (with_reducible refine G.drew ?_) | (with_reducible refine G.alloc ?_ _) | (with_reducible refine G.setCell ?_ (by first | (with_reducible exact Nat.le_refl _) | (simp; done) | (simp; omega) | omega) _) | (with_reducible refine G.trans ?_ (by assumption))))⟩
      have r10 : (aa == nn) = false := beq_false_of_ne r9
      have HT := Lib.hid (show InR ev ⟨f, cc, aa, nn⟩ from HIN.out.2 ⟨by omega, by omega, by omega, ⟨by omega, by omega⟩, ⟨by omega, by omega⟩, r9⟩)
      have HEV := Lib.hid (show 0 ≤ ev ∧ ev ≤ 128 by omega)
      have HFC := Lib.hid (show -9223372036854775808 ≤ f + cc ∧ f + cc ≤ 9223372036854775807 by omega)
      have HS := Lib.hid (show ∀ k t, k < i → l[k]? = some t → -9223372036854775808 ≤ t.f + t.c ∧ t.f + t.c ≤ 9223372036854775807 from fun k t h1 h2 => by
        have := hI.out k t h1 h2
        unfold InR at this
        have := HEV.out
        omega)
      have HORD := Lib.hid (show Ord (l.take i).getLast? ⟨f, cc, aa, nn⟩ → R = 25 from fun k => by rw [HR0.out, hA.out.rest]; exact go_ord HP.out HT.out k)
      have HBAD := Lib.hid (show ¬ Ord (l.take i).getLast? ⟨f, cc, aa, nn⟩ → ∀ e : Int, 0 ≤ e → e < ev → BadAt (l.take i) ⟨f, cc, aa, nn⟩ e → R = 21 from fun k e h0 h1 h2 => by
        rw [HR0.out, hA.out.rest]
        exact go_tight HP.out HT.out k ((hA.out.bad HT.out k).2 (bad_at.2 ⟨e, h0, h1, h2⟩)))
      have HNX := Lib.hid (show ¬ Ord (l.take i).getLast? ⟨f, cc, aa, nn⟩ → (∀ e : Int, 0 ≤ e → e < ev → ¬ BadAt (l.take i) ⟨f, cc, aa, nn⟩ e) → At ev l (i + 1) from fun k h => hA.out.next HP.out HT.out k (fun h3 => by
        obtain ⟨e, h0, h1, h2⟩ := bad_at.1 ((hA.out.bad HT.out k).1 h3)
        exact h e h0 h1 h2))
      have HIX := Lib.hid (show ∀ k t, k < i + 1 → l[k]? = some t → InR ev t from fun k t h1 h2 => by
        by_cases e : k = i
        · subst e
          rw [HP.out] at h2
          obtain rfl := Option.some.inj h2
          exact HT.out
        · exact hI.out k t (by omega) h2)
      clear q2
      obtain ⟨B1, hB1⟩ : ∃ z : Nat, Hid (wr.heap.size = z) := ⟨_, rfl⟩
      obtain ⟨WA, hWA⟩ : ∃ z : World, Hid (wr.alloc (.cells #[.int .i64 f, .int .i64 cc, .int .i64 aa, .int .i64 nn] 39) = z) := ⟨_, rfl⟩
      have HZA := Lib.hid (show Tu4 WA B1 0 ⟨f, cc, aa, nn⟩ by
        obtain ⟨y0, y1, y2, y3⟩ := four_at (W := wr) (n := B1) (a := .int .i64 f) (b := .int .i64 cc) (c := .int .i64 aa) (d := .int .i64 nn) (t := 39) hB1.out (by rw [hWA.out]; exact G.refl _)
        exact ⟨y0, y1, y2, y3⟩)
      have gA : G w WA := by rw [← hWA.out]; (repeat' (first | (with_reducible exact G.refl _) | (with_reducible assumption) | (with_reducible refine G.drewN ?_ _) | (with_reducible refine G.drew ?_) | (with_reducible refine G.alloc ?_ _) | (with_reducible refine G.setCell ?_ (by first | (with_reducible exact Nat.le_refl _) | (simp; done) | (simp; omega) | omega) _) | (with_reducible refine G.trans ?_ (by assumption))))
      have GZA := Lib.hid gA
      obtain ⟨s0, s1, s2, s3⟩ := HZA.out
      dsimp only [Nat.zero_add] at s0 s1 s2 s3
      by_cases i0 : i = 0
      · have HNO := Lib.hid (show ¬ Ord (l.take i).getLast? ⟨f, cc, aa, nn⟩ from fun ⟨q, h, _⟩ => by rw [i0] at h; simp at h)
        have i1 : ¬ (0 < (i : Int)) := by omega
        have i2 : decide (0 < (i : Int)) = false := decide_eq_false i1
        have i3 : ¬ 0 < i := by omega
        have i4 : decide (0 < i) = false := decide_eq_false i3
        clear i0
        have gwr := gr
        go_wp2_with fail
        go_big_region
        all_goals
          rw [hWA.out, hB1.out]
          obtain ⟨W1, hW1⟩ : ∃ z : World, Hid (WA = z) := ⟨_, rfl⟩
          have GW1 : Hid (G w W1) := by rw [← hW1.out]; exact GZA
          have HZ : Hid (Tu4 W1 B1 0 ⟨f, cc, aa, nn⟩) := by rw [← hW1.out]; exact HZA
          rw [hW1.out]
          clear x0 x1 x2 x3 s0 s1 s2 s3
          go_wp2_with fail
          go_loopg [7] ev.toNat (fun q x wr => ∃ e : Nat, x = .int .i64 e ∧ q = ev.toNat - e ∧ (e : Int) ≤ ev ∧ Hid (∀ k : Int, 0 ≤ k → k < e → ¬ BadAt (l.take i) ⟨f, cc, aa, nn⟩ k) ∧ G W1 wr)
          case atStart => exact ⟨0, rfl, by omega, by omega, Lib.hid (fun k h0 h1 => by omega), by first | exact G.refl _ | (repeat' (first | (with_reducible exact G.refl _) | (with_reducible assumption) | (with_reducible refine G.drewN ?_ _) | (with_reducible refine G.drew ?_) | (with_reducible refine G.alloc ?_ _) | (with_reducible refine G.setCell ?_ (by first | (with_reducible exact Nat.le_refl _) | (simp; done) | (simp; omega) | omega) _) | (with_reducible refine G.trans ?_ (by assumption))))⟩
          case round =>
            obtain ⟨e, rfl, hq2, he, hNB, gr2⟩ := hrel
            have HQ2 := Lib.hid hq2
            clear hq2
            by_cases hel : (e : Int) < ev
            · have d1 : (0 : Int) ≤ (e : Int) := by omega
              have d3 := IntWalk.i64_in ((e : Int) + 1) (by omega)
              go_wp2_with fail
              go_loopg [8, 9] i (fun q x y wr => ∃ (k : Nat) (D : Nat), x = .int .i64 D ∧ y = .int .i64 k ∧ q = i - k ∧ k ≤ i ∧ D ≤ k ∧ Hid (D = dpt (l.take k) ⟨f, cc, aa, nn⟩ e) ∧ Hid (∀ m u, m < k → l[m]? = some u → InT ⟨f, cc, aa, nn⟩ e → InT u e → Wi ⟨f, cc, aa, nn⟩ u) ∧ G W1 wr)
              case atStart => exact ⟨0, 0, rfl, rfl, by omega, by omega, by omega, Lib.hid (by unfold dpt; simp), Lib.hid (fun m u h => by omega), by (repeat' (first | (with_reducible exact G.refl _) | (with_reducible assumption) | (with_reducible refine G.drewN ?_ _) | (with_reducible refine G.drew ?_) | (with_reducible refine G.alloc ?_ _) | (with_reducible refine G.setCell ?_ (by first | (with_reducible exact Nat.le_refl _) | (simp; done) | (simp; omega) | omega) _) | (with_reducible refine G.trans ?_ (by assumption))))⟩
              case round =>
                obtain ⟨k, D, rfl, rfl, hq3, hk, hDk, hD, hW, gr3⟩ := hrel
                have HQ3 := Lib.hid hq3
                clear hq3
                have gw3 : G w _ := GW1.out.trans gr3
                obtain ⟨z0, z1, z2, z3⟩ := HZ.out.later gr3
                dsimp only [Nat.zero_add] at z0 z1 z2 z3
                by_cases hki : k < i
                · obtain ⟨⟨f', c', a', n'⟩, hp'⟩ : ∃ z, l[k]? = some z := ⟨l[k], List.getElem?_eq_getElem (by omega)⟩
                  obtain ⟨y0, y1, y2, y3⟩ := (FC.out k _ hp').later gw3
                  dsimp only at y0 y1 y2 y3
                  have HP' := Lib.hid hp'
                  have HS' := Lib.hid (HS.out k _ hki hp')
                  have k1 : (0 : Int) ≤ (k : Int) := by omega
                  have k2 : (k : Int) < (l.length : Int) := by omega
                  have k3 := IntWalk.i64_in ((k : Int) + 1) (by omega)
                  have k4 := IntWalk.i64_in ((D : Int) + 1) (by omega)
                  have k5 : (k : Int) < (i : Int) := by omega
                  have HDN := Lib.hid (dpt_next (t := ⟨f, cc, aa, nn⟩) (e := e) hp')
                  have HTA := Lib.hid (show l[k]? = some ⟨f', c', a', n'⟩ ∧ (⟨f', c', a', n'⟩ : Tu) ∈ l.take i from ⟨hp', by
                    have : (l.take i)[k]? = some ⟨f', c', a', n'⟩ := by rw [List.getElem?_take, if_pos hki]; exact hp'
                    exact List.mem_of_getElem? this⟩)
                  clear hp'
                  by_cases t1 : InT ⟨f, cc, aa, nn⟩ e
                  · have T1 := Lib.hid t1
                    clear t1
                    by_cases t2 : InT ⟨f', c', a', n'⟩ e
                    · have T2 := Lib.hid t2
                      clear t2
                      go_wp2_with fail
                      refine (rIn_any _ _ _ _ _ _ HFC.out.1 HFC.out.2).mono ?_
                      rintro x w4 ⟨rfl, hG4⟩
                      rw [decide_eq_true T1.out]
                      have gr4 := gr3.trans (G.trans (by (repeat' (first | (with_reducible exact G.refl _) | (with_reducible refine G.drewN ?_ _) | (with_reducible refine G.drew ?_) | (with_reducible refine G.alloc ?_ _)))) hG4)
                      clear z0 z1 z2 z3 y0 y1 y2 y3
                      obtain ⟨z0, z1, z2, z3⟩ := HZ.out.later gr4
                      obtain ⟨y0, y1, y2, y3⟩ := (FC.out k _ HP'.out).later (GW1.out.trans gr4)
                      dsimp only [Nat.zero_add] at z0 z1 z2 z3 y0 y1 y2 y3
                      go_wp2_with fail
                      refine (rIn_any _ _ _ _ _ _ HS'.out.1 HS'.out.2).mono ?_
                      rintro x w5 ⟨rfl, hG5⟩
                      rw [decide_eq_true T2.out]
                      have gr5 := gr4.trans (G.trans (by (repeat' (first | (with_reducible exact G.refl _) | (with_reducible refine G.drewN ?_ _) | (with_reducible refine G.drew ?_) | (with_reducible refine G.alloc ?_ _)))) hG5)
                      clear z0 z1 z2 z3 y0 y1 y2 y3
                      obtain ⟨z0, z1, z2, z3⟩ := HZ.out.later gr5
                      obtain ⟨y0, y1, y2, y3⟩ := (FC.out k _ HP'.out).later (GW1.out.trans gr5)
                      dsimp only [Nat.zero_add] at z0 z1 z2 z3 y0 y1 y2 y3
                      by_cases t3 : Wi ⟨f, cc, aa, nn⟩ ⟨f', c', a', n'⟩
                      · have T3 := Lib.hid t3
                        clear t3
                        go_wp2_with fail
                        go_region_held3 (fun w' => w'.cell? ⟨B1, 0, none⟩ = some (.int .i64 f) ∧ w'.cell? ⟨B1, 1, none⟩ = some (.int .i64 cc) ∧ w'.cell? ⟨B1, 2, none⟩ = some (.int .i64 aa) ∧ w'.cell? ⟨B1, 3, none⟩ = some (.int .i64 nn) ∧ w'.cell? ⟨b0, of + k * 4, none⟩ = some (.int .i64 f') ∧ w'.cell? ⟨b0, of + k * 4 + 1, none⟩ = some (.int .i64 c') ∧ w'.cell? ⟨b0, of + k * 4 + 2, none⟩ = some (.int .i64 a') ∧ w'.cell? ⟨b0, of + k * 4 + 3, none⟩ = some (.int .i64 n'))
                            (first | (with_reducible assumption) | ((try dsimp only); (repeat' (with_reducible apply And.intro)) <;> go_simp))
                            (first | (go_at_call 31; refine (rWithin_any _ _ _ _ _ _ _ _ _ HFC.out HS'.out).mono ?_; rintro x w6 ⟨rfl, hG6⟩; rw [decide_eq_true T3.out]; have gr6 := gr5.trans (G.trans (by (repeat' (first | (with_reducible exact G.refl _) | (with_reducible refine G.drewN ?_ _) | (with_reducible refine G.drew ?_) | (with_reducible refine G.alloc ?_ _)))) hG6); have gQ : G w5 w6 := G.trans (by (repeat' (first | (with_reducible exact G.refl _) | (with_reducible refine G.drewN ?_ _) | (with_reducible refine G.drew ?_) | (with_reducible refine G.alloc ?_ _)))) hG6; have P0 := gQ.at z0; have P1 := gQ.at z1; have P2 := gQ.at z2; have P3 := gQ.at z3; have Q0 := gQ.at y0; have Q1 := gQ.at y1; have Q2 := gQ.at y2; have Q3 := gQ.at y3))
                        all_goals
                          go_wp2_with fail
                          go_roundg (i - (k + 1))
                          case measure => have := HQ3.out; omega
                          case rel => exact ⟨k + 1, D + 1, by go_num, by go_num, rfl, by omega, by omega, Lib.hid (by rw [HDN.out, if_pos ⟨T1.out, T2.out⟩, ← hD.out]), Lib.hid (fun m u h1 h2 h3 h4 => by
                            by_cases em : m = k
                            · subst em
                              rw [HP'.out] at h2
                              obtain rfl := Option.some.inj h2
                              exact T3.out
                            · exact hW.out m u (by omega) h2 h3 h4), by first | with_reducible assumption | (repeat' (first | (with_reducible exact G.refl _) | (with_reducible assumption) | (with_reducible refine G.drewN ?_ _) | (with_reducible refine G.drew ?_) | (with_reducible refine G.alloc ?_ _) | (with_reducible refine G.setCell ?_ (by first | (with_reducible exact Nat.le_refl _) | (simp; done) | (simp; omega) | omega) _) | (with_reducible refine G.trans ?_ (by assumption))))⟩
                      · have T3 := Lib.hid t3
                        clear t3
                        have HR := Lib.hid (HBAD.out HNO.out e d1 hel ⟨T1.out, .inl ⟨_, HTA.out.2, T2.out, T3.out⟩⟩)
                        go_wp2_with fail
                        go_region_held3 (fun w' => w'.cell? ⟨B1, 0, none⟩ = some (.int .i64 f) ∧ w'.cell? ⟨B1, 1, none⟩ = some (.int .i64 cc) ∧ w'.cell? ⟨B1, 2, none⟩ = some (.int .i64 aa) ∧ w'.cell? ⟨B1, 3, none⟩ = some (.int .i64 nn) ∧ w'.cell? ⟨b0, of + k * 4, none⟩ = some (.int .i64 f') ∧ w'.cell? ⟨b0, of + k * 4 + 1, none⟩ = some (.int .i64 c') ∧ w'.cell? ⟨b0, of + k * 4 + 2, none⟩ = some (.int .i64 a') ∧ w'.cell? ⟨b0, of + k * 4 + 3, none⟩ = some (.int .i64 n'))
                            (first | (with_reducible assumption) | ((try dsimp only); (repeat' (with_reducible apply And.intro)) <;> go_simp))
                            (first | (go_at_call 31; refine (rWithin_any _ _ _ _ _ _ _ _ _ HFC.out HS'.out).mono ?_; rintro x w6 ⟨rfl, hG6⟩; rw [decide_eq_false T3.out]; have gr6 := gr5.trans (G.trans (by (repeat' (first | (with_reducible exact G.refl _) | (with_reducible refine G.drewN ?_ _) | (with_reducible refine G.drew ?_) | (with_reducible refine G.alloc ?_ _)))) hG6); have gQ : G w5 w6 := G.trans (by (repeat' (first | (with_reducible exact G.refl _) | (with_reducible refine G.drewN ?_ _) | (with_reducible refine G.drew ?_) | (with_reducible refine G.alloc ?_ _)))) hG6; have P0 := gQ.at z0; have P1 := gQ.at z1; have P2 := gQ.at z2; have P3 := gQ.at z3; have Q0 := gQ.at y0; have Q1 := gQ.at y1; have Q2 := gQ.at y2; have Q3 := gQ.at y3))
                        all_goals
                          go_wp2_with fail
                          go_ret
                          exact ⟨by rw [HR.out]; rfl, GW1.out.trans (by first | with_reducible assumption | (repeat' (first | (with_reducible exact G.refl _) | (with_reducible assumption) | (with_reducible refine G.drewN ?_ _) | (with_reducible refine G.drew ?_) | (with_reducible refine G.alloc ?_ _) | (with_reducible refine G.setCell ?_ (by first | (with_reducible exact Nat.le_refl _) | (simp; done) | (simp; omega) | omega) _) | (with_reducible refine G.trans ?_ (by assumption)))))⟩
                    · have T2 := Lib.hid t2
                      clear t2
                      go_wp2_with fail
                      refine (rIn_any _ _ _ _ _ _ HFC.out.1 HFC.out.2).mono ?_
                      rintro x w4 ⟨rfl, hG4⟩
                      rw [decide_eq_true T1.out]
                      have gr4 := gr3.trans (G.trans (by (repeat' (first | (with_reducible exact G.refl _) | (with_reducible refine G.drewN ?_ _) | (with_reducible refine G.drew ?_) | (with_reducible refine G.alloc ?_ _)))) hG4)
                      clear z0 z1 z2 z3 y0 y1 y2 y3
                      obtain ⟨y0, y1, y2, y3⟩ := (FC.out k _ HP'.out).later (GW1.out.trans gr4)
                      dsimp only [Nat.zero_add] at y0 y1 y2 y3
                      go_wp2_with fail
                      refine (rIn_any _ _ _ _ _ _ HS'.out.1 HS'.out.2).mono ?_
                      rintro x w5 ⟨rfl, hG5⟩
                      rw [decide_eq_false T2.out]
                      have gr5 := gr4.trans (G.trans (by (repeat' (first | (with_reducible exact G.refl _) | (with_reducible refine G.drewN ?_ _) | (with_reducible refine G.drew ?_) | (with_reducible refine G.alloc ?_ _)))) hG5)
                      go_wp2_with fail
                      go_roundg (i - (k + 1))
                      case measure => have := HQ3.out; omega
                      case rel => exact ⟨k + 1, D, rfl, by go_num, rfl, by omega, by omega, Lib.hid (by rw [HDN.out, if_neg (fun h => T2.out h.2), ← hD.out]), Lib.hid (fun m u h1 h2 h3 h4 => by
                        by_cases em : m = k
                        · subst em
                          rw [HP'.out] at h2
                          obtain rfl := Option.some.inj h2
                          exact absurd h4 T2.out
                        · exact hW.out m u (by omega) h2 h3 h4), by first | with_reducible assumption | (repeat' (first | (with_reducible exact G.refl _) | (with_reducible assumption) | (with_reducible refine G.drewN ?_ _) | (with_reducible refine G.drew ?_) | (with_reducible refine G.alloc ?_ _) | (with_reducible refine G.setCell ?_ (by first | (with_reducible exact Nat.le_refl _) | (simp; done) | (simp; omega) | omega) _) | (with_reducible refine G.trans ?_ (by assumption))))⟩
                  · have T1 := Lib.hid t1
                    clear t1
                    go_wp2_with fail
                    refine (rIn_any _ _ _ _ _ _ HFC.out.1 HFC.out.2).mono ?_
                    rintro x w4 ⟨rfl, hG4⟩
                    rw [decide_eq_false T1.out]
                    have gr4 := gr3.trans (G.trans (by (repeat' (first | (with_reducible exact G.refl _) | (with_reducible refine G.drewN ?_ _) | (with_reducible refine G.drew ?_) | (with_reducible refine G.alloc ?_ _)))) hG4)
                    go_wp2_with fail
                    go_roundg (i - (k + 1))
                    case measure => have := HQ3.out; omega
                    case rel => exact ⟨k + 1, D, rfl, by go_num, rfl, by omega, by omega, Lib.hid (by rw [HDN.out, if_neg (fun h => T1.out h.1), ← hD.out]), Lib.hid (fun m u h1 h2 h3 h4 => absurd h3 T1.out), by first | with_reducible assumption | (repeat' (first | (with_reducible exact G.refl _) | (with_reducible assumption) | (with_reducible refine G.drewN ?_ _) | (with_reducible refine G.drew ?_) | (with_reducible refine G.alloc ?_ _) | (with_reducible refine G.setCell ?_ (by first | (with_reducible exact Nat.le_refl _) | (simp; done) | (simp; omega) | omega) _) | (with_reducible refine G.trans ?_ (by assumption))))⟩
                · have hkk : k = i := by omega
                  subst hkk
                  by_cases d3' : 3 ≤ (D : Int)
                  · have HR := Lib.hid (HBAD.out HNO.out e d1 hel (badAt_deep (by rw [← hD.out]; omega)))
                    go_wp2_with fail
                    go_ret
                    exact ⟨by rw [HR.out]; rfl, gw3⟩
                  · have HN2 := Lib.hid (not_badAt (b := l.take k) (t := ⟨f, cc, aa, nn⟩) (e := e) (fun u hu h1 h2 => by
                      obtain ⟨m, hm⟩ := List.getElem?_of_mem hu
                      have hmk : m < k := by have := (List.getElem?_eq_some_iff.1 hm).1; rw [List.length_take] at this; omega
                      exact hW.out m u hmk (take_at hm) h1 h2) (by rw [← hD.out]; omega))
                    go_wp2_with fail
                    go_roundg (ev.toNat - (e + 1))
                    case measure => have := HQ2.out; omega
                    case rel => exact ⟨e + 1, by go_num, rfl, by omega, Lib.hid (fun m h0 h1 => by
                      by_cases em : m = e
                      · subst em; exact HN2.out
                      · exact hNB.out m h0 (by omega)), by first | with_reducible assumption | (repeat' (first | (with_reducible exact G.refl _) | (with_reducible assumption) | (with_reducible refine G.drewN ?_ _) | (with_reducible refine G.drew ?_) | (with_reducible refine G.alloc ?_ _) | (with_reducible refine G.setCell ?_ (by first | (with_reducible exact Nat.le_refl _) | (simp; done) | (simp; omega) | omega) _) | (with_reducible refine G.trans ?_ (by assumption))))⟩
            · have HN1 := Lib.hid (HNX.out HNO.out (fun m h0 h1 => hNB.out m h0 (by omega)))
              go_wp2_with fail
              go_roundg (l.length - (i + 1))
              case measure => have := HQ.out; omega
              case rel => exact ⟨i + 1, by go_num, rfl, by omega, HN1, HIX, GW1.out.trans gr2⟩
      obtain ⟨⟨f', c', a', n'⟩, hu⟩ : ∃ z, l[i - 1]? = some z := ⟨l[i - 1]'(by omega), List.getElem?_eq_getElem (by omega)⟩
      have HO := Lib.hid (show Ord (l.take i).getLast? ⟨f, cc, aa, nn⟩ ↔ Aft ⟨f, cc, aa, nn⟩ ⟨f', c', a', n'⟩ by
        rw [last_take (by omega) (by omega), hu]
        exact ⟨fun ⟨q, h, k⟩ => by cases h; exact k, fun k => ⟨_, rfl, k⟩⟩)
      obtain ⟨y0, y1, y2, y3⟩ := (FC.out (i - 1) _ hu).later gA
      dsimp only at y0 y1 y2 y3
      have i1 : 0 < (i : Int) := by omega
      have i2 : decide (0 < (i : Int)) = true := decide_eq_true i1
      have i3 : 0 < i := by omega
      have i4 : decide (0 < i) = true := decide_eq_true i3
      have i5 : (1 : Int) ≤ (i : Int) := by omega
      have j1 : (0 : Int) ≤ (i : Int) - 1 := by omega
      have j2 : (i : Int) - 1 < (l.length : Int) := by omega
      have j3 := IntWalk.i64_in ((i : Int) - 1) (by omega)
      have j4 : ((i : Int) - 1).toNat = i - 1 := by omega
      clear hu i0
      by_cases hc : Aft ⟨f, cc, aa, nn⟩ ⟨f', c', a', n'⟩
      · have HR := Lib.hid (HORD.out (HO.out.2 hc))
        have HCC := Lib.hid hc
        clear hc
        go_wp2_with fail
        rw [hWA.out, hB1.out]
        go_region_held3 (fun w' => w'.cell? ⟨B1, 0, none⟩ = some (.int .i64 f) ∧ w'.cell? ⟨B1, 1, none⟩ = some (.int .i64 cc) ∧ w'.cell? ⟨B1, 2, none⟩ = some (.int .i64 aa) ∧ w'.cell? ⟨B1, 3, none⟩ = some (.int .i64 nn) ∧ w'.cell? ⟨b0, of + (i - 1) * 4, none⟩ = some (.int .i64 f') ∧ w'.cell? ⟨b0, of + (i - 1) * 4 + 1, none⟩ = some (.int .i64 c') ∧ w'.cell? ⟨b0, of + (i - 1) * 4 + 2, none⟩ = some (.int .i64 a') ∧ w'.cell? ⟨b0, of + (i - 1) * 4 + 3, none⟩ = some (.int .i64 n'))
          (first | (with_reducible assumption) | ((try dsimp only); (repeat' (with_reducible apply And.intro)) <;> go_simp))
          (first | (go_at_call 42; refine (rAfter_any _ _ _ _ _ _ _ _ _).mono ?_; rintro x w3 ⟨rfl, hG3⟩; rw [decide_eq_true HCC.out]; have gC : G WA w3 := G.trans (by (repeat' (first | (with_reducible exact G.refl _) | (with_reducible refine G.drewN ?_ _) | (with_reducible refine G.drew ?_) | (with_reducible refine G.alloc ?_ _)))) hG3; have U0 := gC.at s0; have U1 := gC.at s1; have U2 := gC.at s2; have U3 := gC.at s3; have V0 := gC.at y0; have V1 := gC.at y1; have V2 := gC.at y2; have V3 := gC.at y3))
        all_goals
          go_wp2_with fail
          go_ret
          exact ⟨by rw [HR.out]; rfl, gA.trans (by first | with_reducible assumption | (repeat' (first | (with_reducible exact G.refl _) | (with_reducible assumption) | (with_reducible refine G.drewN ?_ _) | (with_reducible refine G.drew ?_) | (with_reducible refine G.alloc ?_ _) | (with_reducible refine G.setCell ?_ (by first | (with_reducible exact Nat.le_refl _) | (simp; done) | (simp; omega) | omega) _) | (with_reducible refine G.trans ?_ (by assumption)))))⟩
      · have HNO := Lib.hid (show ¬ Ord (l.take i).getLast? ⟨f, cc, aa, nn⟩ from fun k => hc (HO.out.1 k))
        have HCC := Lib.hid hc
        clear hc
        go_wp2_with fail
        rw [hWA.out, hB1.out]
        go_region_held3 (fun w' => w'.cell? ⟨B1, 0, none⟩ = some (.int .i64 f) ∧ w'.cell? ⟨B1, 1, none⟩ = some (.int .i64 cc) ∧ w'.cell? ⟨B1, 2, none⟩ = some (.int .i64 aa) ∧ w'.cell? ⟨B1, 3, none⟩ = some (.int .i64 nn) ∧ w'.cell? ⟨b0, of + (i - 1) * 4, none⟩ = some (.int .i64 f') ∧ w'.cell? ⟨b0, of + (i - 1) * 4 + 1, none⟩ = some (.int .i64 c') ∧ w'.cell? ⟨b0, of + (i - 1) * 4 + 2, none⟩ = some (.int .i64 a') ∧ w'.cell? ⟨b0, of + (i - 1) * 4 + 3, none⟩ = some (.int .i64 n'))
          (first | (with_reducible assumption) | ((try dsimp only); (repeat' (with_reducible apply And.intro)) <;> go_simp))
          (first | (go_at_call 42; refine (rAfter_any _ _ _ _ _ _ _ _ _).mono ?_; rintro x w3 ⟨rfl, hG3⟩; rw [decide_eq_false HCC.out]; have gC : G WA w3 := G.trans (by (repeat' (first | (with_reducible exact G.refl _) | (with_reducible refine G.drewN ?_ _) | (with_reducible refine G.drew ?_) | (with_reducible refine G.alloc ?_ _)))) hG3; have U0 := gC.at s0; have U1 := gC.at s1; have U2 := gC.at s2; have U3 := gC.at s3; have V0 := gC.at y0; have V1 := gC.at y1; have V2 := gC.at y2; have V3 := gC.at y3))
        all_goals
          obtain ⟨W1, hW1⟩ : ∃ z : World, Hid (w3 = z) := ⟨_, rfl⟩
          rw [hW1.out] at gC
          have GW1 : Hid (G w W1) := Lib.hid (gA.trans gC)
          have HZ : Hid (Tu4 W1 B1 0 ⟨f, cc, aa, nn⟩) := Lib.hid (HZA.out.later gC)
          rw [hW1.out]
          clear x0 x1 x2 x3 y0 y1 y2 y3 s0 s1 s2 s3
          go_wp2_with fail
          go_loopg [7] ev.toNat (fun q x wr => ∃ e : Nat, x = .int .i64 e ∧ q = ev.toNat - e ∧ (e : Int) ≤ ev ∧ Hid (∀ k : Int, 0 ≤ k → k < e → ¬ BadAt (l.take i) ⟨f, cc, aa, nn⟩ k) ∧ G W1 wr)
          case atStart => exact ⟨0, rfl, by omega, by omega, Lib.hid (fun k h0 h1 => by omega), by first | exact G.refl _ | (repeat' (first | (with_reducible exact G.refl _) | (with_reducible assumption) | (with_reducible refine G.drewN ?_ _) | (with_reducible refine G.drew ?_) | (with_reducible refine G.alloc ?_ _) | (with_reducible refine G.setCell ?_ (by first | (with_reducible exact Nat.le_refl _) | (simp; done) | (simp; omega) | omega) _) | (with_reducible refine G.trans ?_ (by assumption))))⟩
          case round =>
            obtain ⟨e, rfl, hq2, he, hNB, gr2⟩ := hrel
            have HQ2 := Lib.hid hq2
            clear hq2
            by_cases hel : (e : Int) < ev
            · have d1 : (0 : Int) ≤ (e : Int) := by omega
              have d3 := IntWalk.i64_in ((e : Int) + 1) (by omega)
              go_wp2_with fail
              go_loopg [8, 9] i (fun q x y wr => ∃ (k : Nat) (D : Nat), x = .int .i64 D ∧ y = .int .i64 k ∧ q = i - k ∧ k ≤ i ∧ D ≤ k ∧ Hid (D = dpt (l.take k) ⟨f, cc, aa, nn⟩ e) ∧ Hid (∀ m u, m < k → l[m]? = some u → InT ⟨f, cc, aa, nn⟩ e → InT u e → Wi ⟨f, cc, aa, nn⟩ u) ∧ G W1 wr)
              case atStart => exact ⟨0, 0, rfl, rfl, by omega, by omega, by omega, Lib.hid (by unfold dpt; simp), Lib.hid (fun m u h => by omega), by (repeat' (first | (with_reducible exact G.refl _) | (with_reducible assumption) | (with_reducible refine G.drewN ?_ _) | (with_reducible refine G.drew ?_) | (with_reducible refine G.alloc ?_ _) | (with_reducible refine G.setCell ?_ (by first | (with_reducible exact Nat.le_refl _) | (simp; done) | (simp; omega) | omega) _) | (with_reducible refine G.trans ?_ (by assumption))))⟩
              case round =>
                obtain ⟨k, D, rfl, rfl, hq3, hk, hDk, hD, hW, gr3⟩ := hrel
                have HQ3 := Lib.hid hq3
                clear hq3
                have gw3 : G w _ := GW1.out.trans gr3
                obtain ⟨z0, z1, z2, z3⟩ := HZ.out.later gr3
                dsimp only [Nat.zero_add] at z0 z1 z2 z3
                by_cases hki : k < i
                · obtain ⟨⟨f', c', a', n'⟩, hp'⟩ : ∃ z, l[k]? = some z := ⟨l[k], List.getElem?_eq_getElem (by omega)⟩
                  obtain ⟨y0, y1, y2, y3⟩ := (FC.out k _ hp').later gw3
                  dsimp only at y0 y1 y2 y3
                  have HP' := Lib.hid hp'
                  have HS' := Lib.hid (HS.out k _ hki hp')
                  have k1 : (0 : Int) ≤ (k : Int) := by omega
                  have k2 : (k : Int) < (l.length : Int) := by omega
                  have k3 := IntWalk.i64_in ((k : Int) + 1) (by omega)
                  have k4 := IntWalk.i64_in ((D : Int) + 1) (by omega)
                  have k5 : (k : Int) < (i : Int) := by omega
                  have HDN := Lib.hid (dpt_next (t := ⟨f, cc, aa, nn⟩) (e := e) hp')
                  have HTA := Lib.hid (show l[k]? = some ⟨f', c', a', n'⟩ ∧ (⟨f', c', a', n'⟩ : Tu) ∈ l.take i from ⟨hp', by
                    have : (l.take i)[k]? = some ⟨f', c', a', n'⟩ := by rw [List.getElem?_take, if_pos hki]; exact hp'
                    exact List.mem_of_getElem? this⟩)
                  clear hp'
                  by_cases t1 : InT ⟨f, cc, aa, nn⟩ e
                  · have T1 := Lib.hid t1
                    clear t1
                    by_cases t2 : InT ⟨f', c', a', n'⟩ e
                    · have T2 := Lib.hid t2
                      clear t2
                      go_wp2_with fail
                      refine (rIn_any _ _ _ _ _ _ HFC.out.1 HFC.out.2).mono ?_
                      rintro x w4 ⟨rfl, hG4⟩
                      rw [decide_eq_true T1.out]
                      have gr4 := gr3.trans (G.trans (by (repeat' (first | (with_reducible exact G.refl _) | (with_reducible refine G.drewN ?_ _) | (with_reducible refine G.drew ?_) | (with_reducible refine G.alloc ?_ _)))) hG4)
                      clear z0 z1 z2 z3 y0 y1 y2 y3
                      obtain ⟨z0, z1, z2, z3⟩ := HZ.out.later gr4
                      obtain ⟨y0, y1, y2, y3⟩ := (FC.out k _ HP'.out).later (GW1.out.trans gr4)
                      dsimp only [Nat.zero_add] at z0 z1 z2 z3 y0 y1 y2 y3
                      go_wp2_with fail
                      refine (rIn_any _ _ _ _ _ _ HS'.out.1 HS'.out.2).mono ?_
                      rintro x w5 ⟨rfl, hG5⟩
                      rw [decide_eq_true T2.out]
                      have gr5 := gr4.trans (G.trans (by (repeat' (first | (with_reducible exact G.refl _) | (with_reducible refine G.drewN ?_ _) | (with_reducible refine G.drew ?_) | (with_reducible refine G.alloc ?_ _)))) hG5)
                      clear z0 z1 z2 z3 y0 y1 y2 y3
                      obtain ⟨z0, z1, z2, z3⟩ := HZ.out.later gr5
                      obtain ⟨y0, y1, y2, y3⟩ := (FC.out k _ HP'.out).later (GW1.out.trans gr5)
                      dsimp only [Nat.zero_add] at z0 z1 z2 z3 y0 y1 y2 y3
                      by_cases t3 : Wi ⟨f, cc, aa, nn⟩ ⟨f', c', a', n'⟩
                      · have T3 := Lib.hid t3
                        clear t3
                        go_wp2_with fail
                        go_region_held3 (fun w' => w'.cell? ⟨B1, 0, none⟩ = some (.int .i64 f) ∧ w'.cell? ⟨B1, 1, none⟩ = some (.int .i64 cc) ∧ w'.cell? ⟨B1, 2, none⟩ = some (.int .i64 aa) ∧ w'.cell? ⟨B1, 3, none⟩ = some (.int .i64 nn) ∧ w'.cell? ⟨b0, of + k * 4, none⟩ = some (.int .i64 f') ∧ w'.cell? ⟨b0, of + k * 4 + 1, none⟩ = some (.int .i64 c') ∧ w'.cell? ⟨b0, of + k * 4 + 2, none⟩ = some (.int .i64 a') ∧ w'.cell? ⟨b0, of + k * 4 + 3, none⟩ = some (.int .i64 n'))
                            (first | (with_reducible assumption) | ((try dsimp only); (repeat' (with_reducible apply And.intro)) <;> go_simp))
                            (first | (go_at_call 31; refine (rWithin_any _ _ _ _ _ _ _ _ _ HFC.out HS'.out).mono ?_; rintro x w6 ⟨rfl, hG6⟩; rw [decide_eq_true T3.out]; have gr6 := gr5.trans (G.trans (by (repeat' (first | (with_reducible exact G.refl _) | (with_reducible refine G.drewN ?_ _) | (with_reducible refine G.drew ?_) | (with_reducible refine G.alloc ?_ _)))) hG6); have gQ : G w5 w6 := G.trans (by (repeat' (first | (with_reducible exact G.refl _) | (with_reducible refine G.drewN ?_ _) | (with_reducible refine G.drew ?_) | (with_reducible refine G.alloc ?_ _)))) hG6; have P0 := gQ.at z0; have P1 := gQ.at z1; have P2 := gQ.at z2; have P3 := gQ.at z3; have Q0 := gQ.at y0; have Q1 := gQ.at y1; have Q2 := gQ.at y2; have Q3 := gQ.at y3))
                        all_goals
                          go_wp2_with fail
                          go_roundg (i - (k + 1))
                          case measure => have := HQ3.out; omega
                          case rel => exact ⟨k + 1, D + 1, by go_num, by go_num, rfl, by omega, by omega, Lib.hid (by rw [HDN.out, if_pos ⟨T1.out, T2.out⟩, ← hD.out]), Lib.hid (fun m u h1 h2 h3 h4 => by
                            by_cases em : m = k
                            · subst em
                              rw [HP'.out] at h2
                              obtain rfl := Option.some.inj h2
                              exact T3.out
                            · exact hW.out m u (by omega) h2 h3 h4), by first | with_reducible assumption | (repeat' (first | (with_reducible exact G.refl _) | (with_reducible assumption) | (with_reducible refine G.drewN ?_ _) | (with_reducible refine G.drew ?_) | (with_reducible refine G.alloc ?_ _) | (with_reducible refine G.setCell ?_ (by first | (with_reducible exact Nat.le_refl _) | (simp; done) | (simp; omega) | omega) _) | (with_reducible refine G.trans ?_ (by assumption))))⟩
                      · have T3 := Lib.hid t3
                        clear t3
                        have HR := Lib.hid (HBAD.out HNO.out e d1 hel ⟨T1.out, .inl ⟨_, HTA.out.2, T2.out, T3.out⟩⟩)
                        go_wp2_with fail
                        go_region_held3 (fun w' => w'.cell? ⟨B1, 0, none⟩ = some (.int .i64 f) ∧ w'.cell? ⟨B1, 1, none⟩ = some (.int .i64 cc) ∧ w'.cell? ⟨B1, 2, none⟩ = some (.int .i64 aa) ∧ w'.cell? ⟨B1, 3, none⟩ = some (.int .i64 nn) ∧ w'.cell? ⟨b0, of + k * 4, none⟩ = some (.int .i64 f') ∧ w'.cell? ⟨b0, of + k * 4 + 1, none⟩ = some (.int .i64 c') ∧ w'.cell? ⟨b0, of + k * 4 + 2, none⟩ = some (.int .i64 a') ∧ w'.cell? ⟨b0, of + k * 4 + 3, none⟩ = some (.int .i64 n'))
                            (first | (with_reducible assumption) | ((try dsimp only); (repeat' (with_reducible apply And.intro)) <;> go_simp))
                            (first | (go_at_call 31; refine (rWithin_any _ _ _ _ _ _ _ _ _ HFC.out HS'.out).mono ?_; rintro x w6 ⟨rfl, hG6⟩; rw [decide_eq_false T3.out]; have gr6 := gr5.trans (G.trans (by (repeat' (first | (with_reducible exact G.refl _) | (with_reducible refine G.drewN ?_ _) | (with_reducible refine G.drew ?_) | (with_reducible refine G.alloc ?_ _)))) hG6); have gQ : G w5 w6 := G.trans (by (repeat' (first | (with_reducible exact G.refl _) | (with_reducible refine G.drewN ?_ _) | (with_reducible refine G.drew ?_) | (with_reducible refine G.alloc ?_ _)))) hG6; have P0 := gQ.at z0; have P1 := gQ.at z1; have P2 := gQ.at z2; have P3 := gQ.at z3; have Q0 := gQ.at y0; have Q1 := gQ.at y1; have Q2 := gQ.at y2; have Q3 := gQ.at y3))
                        all_goals
                          go_wp2_with fail
                          go_ret
                          exact ⟨by rw [HR.out]; rfl, GW1.out.trans (by first | with_reducible assumption | (repeat' (first | (with_reducible exact G.refl _) | (with_reducible assumption) | (with_reducible refine G.drewN ?_ _) | (with_reducible refine G.drew ?_) | (with_reducible refine G.alloc ?_ _) | (with_reducible refine G.setCell ?_ (by first | (with_reducible exact Nat.le_refl _) | (simp; done) | (simp; omega) | omega) _) | (with_reducible refine G.trans ?_ (by assumption)))))⟩
                    · have T2 := Lib.hid t2
                      clear t2
                      go_wp2_with fail
                      refine (rIn_any _ _ _ _ _ _ HFC.out.1 HFC.out.2).mono ?_
                      rintro x w4 ⟨rfl, hG4⟩
                      rw [decide_eq_true T1.out]
                      have gr4 := gr3.trans (G.trans (by (repeat' (first | (with_reducible exact G.refl _) | (with_reducible refine G.drewN ?_ _) | (with_reducible refine G.drew ?_) | (with_reducible refine G.alloc ?_ _)))) hG4)
                      clear z0 z1 z2 z3 y0 y1 y2 y3
                      obtain ⟨y0, y1, y2, y3⟩ := (FC.out k _ HP'.out).later (GW1.out.trans gr4)
                      dsimp only [Nat.zero_add] at y0 y1 y2 y3
                      go_wp2_with fail
                      refine (rIn_any _ _ _ _ _ _ HS'.out.1 HS'.out.2).mono ?_
                      rintro x w5 ⟨rfl, hG5⟩
                      rw [decide_eq_false T2.out]
                      have gr5 := gr4.trans (G.trans (by (repeat' (first | (with_reducible exact G.refl _) | (with_reducible refine G.drewN ?_ _) | (with_reducible refine G.drew ?_) | (with_reducible refine G.alloc ?_ _)))) hG5)
                      go_wp2_with fail
                      go_roundg (i - (k + 1))
                      case measure => have := HQ3.out; omega
                      case rel => exact ⟨k + 1, D, rfl, by go_num, rfl, by omega, by omega, Lib.hid (by rw [HDN.out, if_neg (fun h => T2.out h.2), ← hD.out]), Lib.hid (fun m u h1 h2 h3 h4 => by
                        by_cases em : m = k
                        · subst em
                          rw [HP'.out] at h2
                          obtain rfl := Option.some.inj h2
                          exact absurd h4 T2.out
                        · exact hW.out m u (by omega) h2 h3 h4), by first | with_reducible assumption | (repeat' (first | (with_reducible exact G.refl _) | (with_reducible assumption) | (with_reducible refine G.drewN ?_ _) | (with_reducible refine G.drew ?_) | (with_reducible refine G.alloc ?_ _) | (with_reducible refine G.setCell ?_ (by first | (with_reducible exact Nat.le_refl _) | (simp; done) | (simp; omega) | omega) _) | (with_reducible refine G.trans ?_ (by assumption))))⟩
                  · have T1 := Lib.hid t1
                    clear t1
                    go_wp2_with fail
                    refine (rIn_any _ _ _ _ _ _ HFC.out.1 HFC.out.2).mono ?_
                    rintro x w4 ⟨rfl, hG4⟩
                    rw [decide_eq_false T1.out]
                    have gr4 := gr3.trans (G.trans (by (repeat' (first | (with_reducible exact G.refl _) | (with_reducible refine G.drewN ?_ _) | (with_reducible refine G.drew ?_) | (with_reducible refine G.alloc ?_ _)))) hG4)
                    go_wp2_with fail
                    go_roundg (i - (k + 1))
                    case measure => have := HQ3.out; omega
                    case rel => exact ⟨k + 1, D, rfl, by go_num, rfl, by omega, by omega, Lib.hid (by rw [HDN.out, if_neg (fun h => T1.out h.1), ← hD.out]), Lib.hid (fun m u h1 h2 h3 h4 => absurd h3 T1.out), by first | with_reducible assumption | (repeat' (first | (with_reducible exact G.refl _) | (with_reducible assumption) | (with_reducible refine G.drewN ?_ _) | (with_reducible refine G.drew ?_) | (with_reducible refine G.alloc ?_ _) | (with_reducible refine G.setCell ?_ (by first | (with_reducible exact Nat.le_refl _) | (simp; done) | (simp; omega) | omega) _) | (with_reducible refine G.trans ?_ (by assumption))))⟩
                · have hkk : k = i := by omega
                  subst hkk
                  by_cases d3' : 3 ≤ (D : Int)
                  · have HR := Lib.hid (HBAD.out HNO.out e d1 hel (badAt_deep (by rw [← hD.out]; omega)))
                    go_wp2_with fail
                    go_ret
                    exact ⟨by rw [HR.out]; rfl, gw3⟩
                  · have HN2 := Lib.hid (not_badAt (b := l.take k) (t := ⟨f, cc, aa, nn⟩) (e := e) (fun u hu h1 h2 => by
                      obtain ⟨m, hm⟩ := List.getElem?_of_mem hu
                      have hmk : m < k := by have := (List.getElem?_eq_some_iff.1 hm).1; rw [List.length_take] at this; omega
                      exact hW.out m u hmk (take_at hm) h1 h2) (by rw [← hD.out]; omega))
                    go_wp2_with fail
                    go_roundg (ev.toNat - (e + 1))
                    case measure => have := HQ2.out; omega
                    case rel => exact ⟨e + 1, by go_num, rfl, by omega, Lib.hid (fun m h0 h1 => by
                      by_cases em : m = e
                      · subst em; exact HN2.out
                      · exact hNB.out m h0 (by omega)), by first | with_reducible assumption | (repeat' (first | (with_reducible exact G.refl _) | (with_reducible assumption) | (with_reducible refine G.drewN ?_ _) | (with_reducible refine G.drew ?_) | (with_reducible refine G.alloc ?_ _) | (with_reducible refine G.setCell ?_ (by first | (with_reducible exact Nat.le_refl _) | (simp; done) | (simp; omega) | omega) _) | (with_reducible refine G.trans ?_ (by assumption))))⟩
            · have HN1 := Lib.hid (HNX.out HNO.out (fun m h0 h1 => hNB.out m h0 (by omega)))
              go_wp2_with fail
              go_roundg (l.length - (i + 1))
              case measure => have := HQ.out; omega
              case rel => exact ⟨i + 1, by go_num, rfl, by omega, HN1, HIX, GW1.out.trans gr2⟩
    · have hii : i = l.length := by omega
      subst hii
      have HR2 := Lib.hid (show R = 0 by rw [HR0.out]; exact hA.out.done)
      go_wp2_with fail
      go_ret
      exact ⟨by rw [HR2.out]; rfl, by (repeat' (first | (with_reducible exact G.refl _) | (with_reducible assumption) | (with_reducible refine G.drewN ?_ _) | (with_reducible refine G.drew ?_) | (with_reducible refine G.alloc ?_ _) | (with_reducible refine G.setCell ?_ (by first | (with_reducible exact Nat.le_refl _) | (simp; done) | (simp; omega) | omega) _) | (with_reducible refine G.trans ?_ (by assumption))))⟩
end Go.Proofs.Ytabaiklagobimaa
