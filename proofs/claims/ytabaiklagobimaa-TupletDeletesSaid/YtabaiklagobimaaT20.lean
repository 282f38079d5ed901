import Derived.Test.YtabaiklagobimaaT19
import Derived.Test.YtabaiklagobimaaT17
/-! Tuplets: the reference's Delete. -/
namespace Go.Proofs.Ytabaiklagobimaa
open Go.RowKit
attribute [local go_sem] World.cell?_alloc_some

theorem TW.new (w : World) (t : Tu) (T : TypeId) : TW (w.alloc (.cells #[.int .i64 t.f, .int .i64 t.c, .int .i64 t.a, .int .i64 t.n] T)) w.heap.size [t] := by
  intro k u hk j v hv
  have hk0 : k = 0 := by have := (List.getElem?_eq_some_iff.1 hk).1; simp at this; omega
  subst hk0
  obtain rfl := Option.some.inj hk
  rw [Nat.zero_mul, Nat.zero_add]
  refine ⟨?_, by simp [go_sem]⟩
  rw [World.cell?_alloc_new]
  rw [← hv]; simp [tuE]
theorem cN_bd {p q : Int} {t : Tu} (hp : 0 ≤ p) (hq : 0 ≤ q) (hf : 0 ≤ t.f) (hc : 1 ≤ t.c) (he : t.f + t.c ≤ 128) (e : Nat) : 0 ≤ cN p q t e ∧ cN p q t e ≤ 128 := by
  have h1 := cN_nn (at_ := p) hc hq (e : Int)
  have h2 := mv_in128 (p := p) (q := q) (e := min (e : Int) (en t)) hp (by unfold en; omega)
  have h3 := mv_in128 (p := p) (q := q) (e := min (e : Int) t.f) hp (by omega)
  refine ⟨h1, ?_⟩
  unfold cN
  omega

set_option maxRecDepth 100000 in
set_option maxHeartbeats 12800000 in
theorem rDelete_any (a : Option Addr) (l : List Tu) (n c : Nat) (ev p q : Int) (w : World) (hn : l.length = n) (hl : n ≤ 20) (h1 : TusAt w a l) (hev : 0 ≤ ev ∧ ev ≤ 128) (hr : ∀ t, t ∈ l → InR ev t) (hpq : 0 ≤ p ∧ 0 ≤ q ∧ q ≤ ev - p) :
    Calls Try.prog 37 #[.slice a n c, .int .i64 ev, .int .i64 p, .int .i64 q] w fun e w' => ∃ v, e = .returned v ∧ Row tuE 39 4 w.heap.size w' v (sortT (delL p q l)) ∧ G w w' := by
  obtain ⟨i0, hi0, hz0, hz1, hz2⟩ := info_parts' rInfo
  have H1 := Lib.hid h1
  have HR := Lib.hid hr
  have HL := Lib.hid (And.intro hn hl)
  have HIN := Lib.hid (show 0 ≤ p ∧ 0 ≤ q ∧ q ≤ ev - p ∧ 0 ≤ ev ∧ ev ≤ 128 by omega)
  have HEV := Lib.hid hev
  have qs := IntWalk.i64_in (p + q) (by omega)
  clear h1 hr hn hl hpq hev
  go_enter Try.func37, Try.ntmps37
  go_wp2_with fail
  go_loopg [9, 10] n (fun k y x wr => ∃ (i : Nat) (v : Value), v = y ∧ x = .int .i64 i ∧ k = n - i ∧ i ≤ n ∧ Hid (Row tuE 39 4 w.heap.size wr v (delL p q (l.take i))) ∧ G w wr)
  case atStart => exact ⟨0, _, rfl, rfl, by omega, by omega, Lib.hid (by simpa [delL] using Row.nil (enc := tuE) w), by (repeat' (first | (with_reducible exact G.refl _) | (with_reducible assumption) | (with_reducible refine G.drewN ?_ _) | (with_reducible refine G.drew ?_) | (with_reducible refine G.alloc ?_ _) | (with_reducible refine G.setCell ?_ (by first | (with_reducible exact Nat.le_refl _) | (simp; done) | (simp; omega) | omega) _) | (with_reducible refine G.trans ?_ (by assumption))))⟩
  case round =>
    obtain ⟨i, v, rfl, rfl, hk, hi, hR, gr⟩ := hrel
    have HQ := Lib.hid hk
    clear hk
    by_cases hin : i < n
    · obtain ⟨⟨f, cc, aa, nn⟩, hp⟩ : ∃ z, l[i]? = some z := ⟨l[i]'(by have := HL.out; omega), List.getElem?_eq_getElem (by have := HL.out; omega)⟩
      rcases H1.out with hz | ⟨b0, of, rfl, fc⟩
      · rw [hz] at hp; simp at hp
      have FC := Lib.hid (fc i _ hp)
      obtain ⟨x0, x1, x2, x3⟩ := FC.out.later gr
      dsimp only at x0 x1 x2 x3
      have HT := Lib.hid (HR.out _ (List.mem_of_getElem? hp))
      have HII := Lib.hid (show 0 ≤ f ∧ 1 ≤ cc ∧ f + cc ≤ 128 by have h := HT.out; have := HIN.out; unfold InR at h; dsimp only at h; omega)
      have HNX := Lib.hid (delL_next (p := p) (q := q) hp)
      have HLT := Lib.hid (show (delL p q (l.take i)).length ≤ 20 from Nat.le_trans (delL_len _ _ _) (by rw [List.length_take]; have := HL.out; omega))
      have HI := Lib.hid hin
      have b1 : (0 : Int) ≤ (i : Int) := by omega
      have b2 : (i : Int) < (n : Int) := by omega
      have q1 := IntWalk.i64_in ((i : Int) + 1) (by have := HL.out; omega)
      clear fc hp hin
      obtain ⟨BT, hBT⟩ : ∃ z : Nat, Hid (wr.heap.size = z) := ⟨_, rfl⟩
      obtain ⟨WT, hWT⟩ : ∃ z : World, Hid (wr.alloc (.cells #[.int .i64 0, .int .i64 0, .int .i64 aa, .int .i64 nn] 39) = z) := ⟨_, rfl⟩
      have gT : G wr WT := by rw [← hWT.out]; (repeat' (first | (with_reducible exact G.refl _) | (with_reducible refine G.drewN ?_ _) | (with_reducible refine G.drew ?_) | (with_reducible refine G.alloc ?_ _)))
      have HTW := Lib.hid (show TW WT BT [⟨0, 0, aa, nn⟩] by rw [← hWT.out, ← hBT.out]; exact TW.new wr ⟨0, 0, aa, nn⟩ 39)
      have HSB := Lib.hid (show wr.heap.size ≤ BT by rw [hBT.out]; exact Nat.le_refl _)
      have HSW := Lib.hid (show BT < WT.heap.size by rw [← hWT.out, ← hBT.out]; simp)
      go_wp2_with fail
      go_big_region
      all_goals
        rw [hWT.out, hBT.out]
        go_wp2_with fail
        go_loopg [12, 13] ev.toNat (fun k x y wr2 => ∃ e : Nat, x = .int .i64 (mv p q e) ∧ y = .int .i64 e ∧ k = ev.toNat - e ∧ (e : Int) ≤ ev ∧ Hid (TW wr2 BT [⟨fN p q ⟨f, cc, aa, nn⟩ e, cN p q ⟨f, cc, aa, nn⟩ e, aa, nn⟩]) ∧ WT.heap.size ≤ wr2.heap.size ∧ G wr wr2)
        case atStart =>
          have h0 : cN p q ⟨f, cc, aa, nn⟩ ((0 : Nat) : Int) = 0 := cN_zero HII.out.1 HII.out.2.1
          exact ⟨0, by rw [show mv p q ((0 : Nat) : Int) = 0 from mv_zero HIN.out.1 HIN.out.2.1], rfl, by omega, by have := HIN.out; omega, Lib.hid (by rw [show fN p q ⟨f, cc, aa, nn⟩ ((0 : Nat) : Int) = 0 from if_pos h0, h0]; exact HTW.out.later (by (repeat' (first | (with_reducible exact G.refl _) | (with_reducible assumption) | (with_reducible refine G.drewN ?_ _) | (with_reducible refine G.drew ?_) | (with_reducible refine G.alloc ?_ _) | (with_reducible refine G.setCell ?_ (by first | (with_reducible exact Nat.le_refl _) | (simp; done) | (simp; omega) | omega) _) | (with_reducible refine G.trans ?_ (by assumption)))))), by first | exact Nat.le_refl _ | (simp; done), gT.trans (by (repeat' (first | (with_reducible exact G.refl _) | (with_reducible assumption) | (with_reducible refine G.drewN ?_ _) | (with_reducible refine G.drew ?_) | (with_reducible refine G.alloc ?_ _) | (with_reducible refine G.setCell ?_ (by first | (with_reducible exact Nat.le_refl _) | (simp; done) | (simp; omega) | omega) _) | (with_reducible refine G.trans ?_ (by assumption)))))⟩
        case round =>
          obtain ⟨e, rfl, rfl, hk2, he, hTW, hsz2, gr2⟩ := hrel
          have HQ2 := Lib.hid hk2
          have HSZ2 := Lib.hid hsz2
          clear hk2 hsz2 x0 x1 x2 x3
          obtain ⟨x0, x1, x2, x3⟩ := FC.out.later (gr.trans gr2)
          dsimp only at x0 x1 x2 x3
          obtain ⟨t0, u0⟩ := hTW.out 0 _ rfl 0 _ rfl
          obtain ⟨t1, u1⟩ := hTW.out 0 _ rfl 1 _ rfl
          have t2 := (hTW.out 0 _ rfl 2 _ rfl).1
          have t3 := (hTW.out 0 _ rfl 3 _ rfl).1
          simp only [Nat.zero_mul, Nat.zero_add] at t0 t1 t2 t3 u0 u1
          have HCB := Lib.hid (cN_bd (t := ⟨f, cc, aa, nn⟩) HIN.out.1 HIN.out.2.1 HII.out.1 HII.out.2.1 HII.out.2.2 e)
          by_cases hel : (e : Int) < ev
          · have HMB := Lib.hid (mv_in128 (p := p) (q := q) (e := (e : Int)) HIN.out.1 (by have := HIN.out; omega))
            have HMI := Lib.hid (fun (h : p ≤ (e : Int) ∧ (e : Int) < p + q) => (And.intro (mv_in h.1 h.2) (cN_skip (t := ⟨f, cc, aa, nn⟩) HII.out.2.1 h)))
            have HMO := Lib.hid (fun (h : ¬ (p ≤ (e : Int) ∧ (e : Int) < p + q)) => mv_out (e := (e : Int)) HIN.out.2.1 h)
            have HCM := Lib.hid (fun (h : ¬ (p ≤ (e : Int) ∧ (e : Int) < p + q)) (hi : InT ⟨f, cc, aa, nn⟩ e) => And.intro (cN_more HIN.out.2.1 h hi) (fN_more HIN.out.2.1 HII.out.2.1 h hi))
            have HCN := Lib.hid (fun (hi : ¬ InT ⟨f, cc, aa, nn⟩ e) => cN_not (at_ := p) (cnt := q) HII.out.2.1 hi)
            have HFS := Lib.hid (fun (h : cN p q ⟨f, cc, aa, nn⟩ ((e : Int) + 1) = cN p q ⟨f, cc, aa, nn⟩ e) => fN_skip h)
            obtain ⟨MV, hMV⟩ : ∃ z : Int, Hid (mv p q e = z) := ⟨_, rfl⟩
            obtain ⟨CN, hCN⟩ : ∃ z : Int, Hid (cN p q ⟨f, cc, aa, nn⟩ e = z) := ⟨_, rfl⟩
            obtain ⟨FN, hFN⟩ : ∃ z : Int, Hid (fN p q ⟨f, cc, aa, nn⟩ e = z) := ⟨_, rfl⟩
            rw [hMV.out] at HMB HMI HMO HCM ⊢
            rw [hCN.out] at HCB HMI HCM HCN HFS t1 hTW
            rw [hFN.out] at HCM HFS t0 hTW
            have e1 : (0 : Int) ≤ (e : Int) := by omega
            have q2 := IntWalk.i64_in ((e : Int) + 1) (by have := HIN.out; omega)
            have q3 := IntWalk.i64_in (MV + 1) (by have := HMB.out; omega)
            have q4 := IntWalk.i64_in (CN + 1) (by have := HCB.out; omega)
            have HEL := Lib.hid hel
            by_cases k1 : p ≤ (e : Int)
            · by_cases k2 : (e : Int) < p + q
              · have HX := Lib.hid (HMI.out ⟨k1, k2⟩)
                go_wp2_with fail
                go_roundg (ev.toNat - (e + 1))
                case measure => have := HQ2.out; have := HEL.out; omega
                case rel => exact ⟨e + 1, by rw [show (((e + 1 : Nat) : Int)) = (e : Int) + 1 from rfl, HX.out.1], by go_num, rfl, by have := HEL.out; omega, Lib.hid (by
                  rw [show (((e + 1 : Nat) : Int)) = (e : Int) + 1 from rfl, HX.out.2, HFS.out HX.out.2]
                  exact hTW.out.later (by (repeat' (first | (with_reducible exact G.refl _) | (with_reducible assumption) | (with_reducible refine G.drewN ?_ _) | (with_reducible refine G.drew ?_) | (with_reducible refine G.alloc ?_ _) | (with_reducible refine G.setCell ?_ (by first | (with_reducible exact Nat.le_refl _) | (simp; done) | (simp; omega) | omega) _) | (with_reducible refine G.trans ?_ (by assumption)))))), by have := HSZ2.out; first | exact this | (simp; omega), gr2.trans (by (repeat' (first | (with_reducible exact G.refl _) | (with_reducible assumption) | (with_reducible refine G.drewN ?_ _) | (with_reducible refine G.drew ?_) | (with_reducible refine G.alloc ?_ _) | (with_reducible refine G.setCell ?_ (by first | (with_reducible exact Nat.le_refl _) | (simp; done) | (simp; omega) | omega) _) | (with_reducible refine G.trans ?_ (by assumption)))))⟩
              · have HND := Lib.hid (show ¬ (p ≤ (e : Int) ∧ (e : Int) < p + q) by omega)
                by_cases hit : InT ⟨f, cc, aa, nn⟩ e
                · have HHH := Lib.hid hit
                  have HX := Lib.hid (HCM.out HND.out hit)
                  clear hit
                  go_wp2_with fail
                  refine (rIn_any _ _ _ _ _ _ (by have := HII.out; omega) (by have := HII.out; omega)).mono ?_
                  rintro x w4 ⟨rfl, hG4⟩
                  rw [decide_eq_true HHH.out]
                  have g4 : G _ w4 := G.trans (by (repeat' (first | (with_reducible exact G.refl _) | (with_reducible refine G.drewN ?_ _) | (with_reducible refine G.drew ?_) | (with_reducible refine G.alloc ?_ _)))) hG4
                  have T4 := Lib.hid (hTW.out.later g4)
                  clear t0 t1 t2 t3 u0 u1 x0 x1 x2 x3
                  obtain ⟨t0, u0⟩ := T4.out 0 _ rfl 0 _ rfl
                  obtain ⟨t1, u1⟩ := T4.out 0 _ rfl 1 _ rfl
                  simp only [Nat.zero_mul, Nat.zero_add] at t0 t1 u0 u1
                  have g24 := gr2.trans g4
                  have HS4 := Lib.hid (Nat.le_trans HSZ2.out g4.size)
                  by_cases z : CN = 0
                  · have z2 : (CN == 0) = true := by rw [z]; rfl
                    have T5 := Lib.hid (by
                      have h := T4.out.set (j := 0) (t' := ⟨MV, CN, aa, nn⟩) (i := 0) rfl (by decide) (show _ = (tuE ⟨FN, CN, aa, nn⟩).set 0 (.int .i64 MV) from rfl)
                      have h2 := h.set (j := 1) (t' := ⟨MV, CN + 1, aa, nn⟩) (i := 0) rfl (by decide) (show _ = (tuE ⟨MV, CN, aa, nn⟩).set 1 (.int .i64 (CN + 1)) from rfl)
                      simp only [Nat.zero_mul, Nat.zero_add, List.set_cons_zero] at h2
                      exact h2)
                    have HF2 := Lib.hid (HX.out.2.trans (if_pos z))
                    go_wp2_with fail
                    go_roundg (ev.toNat - (e + 1))
                    case measure => have := HQ2.out; have := HEL.out; omega
                    case rel => exact ⟨e + 1, by rw [show (((e + 1 : Nat) : Int)) = (e : Int) + 1 from rfl, HMO.out HND.out], by go_num, rfl, by have := HEL.out; omega, Lib.hid (by
                      rw [show (((e + 1 : Nat) : Int)) = (e : Int) + 1 from rfl, HX.out.1, HF2.out]
                      first | exact T5.out | (have h := T5.out; simp only [z, Int.zero_add] at h ⊢; exact h) | exact T5.out.later (by (repeat' (first | (with_reducible exact G.refl _) | (with_reducible refine G.drewN ?_ _) | (with_reducible refine G.drew ?_) | (with_reducible refine G.alloc ?_ _))))), by have := HS4.out; simp [World.setCell]; omega, by repeat' (first | (with_reducible exact g24) | (with_reducible refine G.drew ?_) | (with_reducible refine G.drewN ?_ _) | (with_reducible refine G.setCell ?_ (by exact HSB.out) _))⟩
                  · have z2 : (CN == 0) = false := beq_false_of_ne z
                    have T5 := Lib.hid (by
                      have h2 := T4.out.set (j := 1) (t' := ⟨FN, CN + 1, aa, nn⟩) (i := 0) rfl (by decide) (show _ = (tuE ⟨FN, CN, aa, nn⟩).set 1 (.int .i64 (CN + 1)) from rfl)
                      simp only [Nat.zero_mul, Nat.zero_add, List.set_cons_zero] at h2
                      exact h2)
                    have HF2 := Lib.hid (HX.out.2.trans (if_neg z))
                    go_wp2_with fail
                    go_roundg (ev.toNat - (e + 1))
                    case measure => have := HQ2.out; have := HEL.out; omega
                    case rel => exact ⟨e + 1, by rw [show (((e + 1 : Nat) : Int)) = (e : Int) + 1 from rfl, HMO.out HND.out], by go_num, rfl, by have := HEL.out; omega, Lib.hid (by
                      rw [show (((e + 1 : Nat) : Int)) = (e : Int) + 1 from rfl, HX.out.1, HF2.out]
                      first | exact T5.out | (have h := T5.out; simp only [z, Int.zero_add] at h ⊢; exact h) | exact T5.out.later (by (repeat' (first | (with_reducible exact G.refl _) | (with_reducible refine G.drewN ?_ _) | (with_reducible refine G.drew ?_) | (with_reducible refine G.alloc ?_ _))))), by have := HS4.out; simp [World.setCell]; omega, by repeat' (first | (with_reducible exact g24) | (with_reducible refine G.drew ?_) | (with_reducible refine G.drewN ?_ _) | (with_reducible refine G.setCell ?_ (by exact HSB.out) _))⟩
                · have HHH := Lib.hid hit
                  have HX := Lib.hid (HCN.out hit)
                  clear hit
                  go_wp2_with fail
                  refine (rIn_any _ _ _ _ _ _ (by have := HII.out; omega) (by have := HII.out; omega)).mono ?_
                  rintro x w4 ⟨rfl, hG4⟩
                  rw [decide_eq_false HHH.out]
                  have g4 : G _ w4 := G.trans (by (repeat' (first | (with_reducible exact G.refl _) | (with_reducible refine G.drewN ?_ _) | (with_reducible refine G.drew ?_) | (with_reducible refine G.alloc ?_ _)))) hG4
                  have HS4 := Lib.hid (Nat.le_trans HSZ2.out g4.size)
                  clear x0 x1 x2 x3
                  go_wp2_with fail
                  go_roundg (ev.toNat - (e + 1))
                  case measure => have := HQ2.out; have := HEL.out; omega
                  case rel => exact ⟨e + 1, by rw [show (((e + 1 : Nat) : Int)) = (e : Int) + 1 from rfl, HMO.out HND.out], by go_num, rfl, by have := HEL.out; omega, Lib.hid (by
                    rw [show (((e + 1 : Nat) : Int)) = (e : Int) + 1 from rfl, HX.out, HFS.out HX.out]
                    exact hTW.out.later (g4.trans (by (repeat' (first | (with_reducible exact G.refl _) | (with_reducible refine G.drewN ?_ _) | (with_reducible refine G.drew ?_) | (with_reducible refine G.alloc ?_ _)))))), by have := HS4.out; first | exact this | (simp; omega), gr2.trans (g4.trans (by (repeat' (first | (with_reducible exact G.refl _) | (with_reducible refine G.drewN ?_ _) | (with_reducible refine G.drew ?_) | (with_reducible refine G.alloc ?_ _)))))⟩
            · have HND := Lib.hid (show ¬ (p ≤ (e : Int) ∧ (e : Int) < p + q) by omega)
              by_cases hit : InT ⟨f, cc, aa, nn⟩ e
              · have HHH := Lib.hid hit
                have HX := Lib.hid (HCM.out HND.out hit)
                clear hit
                go_wp2_with fail
                refine (rIn_any _ _ _ _ _ _ (by have := HII.out; omega) (by have := HII.out; omega)).mono ?_
                rintro x w4 ⟨rfl, hG4⟩
                rw [decide_eq_true HHH.out]
                have g4 : G _ w4 := G.trans (by (repeat' (first | (with_reducible exact G.refl _) | (with_reducible refine G.drewN ?_ _) | (with_reducible refine G.drew ?_) | (with_reducible refine G.alloc ?_ _)))) hG4
                have T4 := Lib.hid (hTW.out.later g4)
                clear t0 t1 t2 t3 u0 u1 x0 x1 x2 x3
                obtain ⟨t0, u0⟩ := T4.out 0 _ rfl 0 _ rfl
                obtain ⟨t1, u1⟩ := T4.out 0 _ rfl 1 _ rfl
                simp only [Nat.zero_mul, Nat.zero_add] at t0 t1 u0 u1
                have g24 := gr2.trans g4
                have HS4 := Lib.hid (Nat.le_trans HSZ2.out g4.size)
                by_cases z : CN = 0
                · have z2 : (CN == 0) = true := by rw [z]; rfl
                  have T5 := Lib.hid (by
                    have h := T4.out.set (j := 0) (t' := ⟨MV, CN, aa, nn⟩) (i := 0) rfl (by decide) (show _ = (tuE ⟨FN, CN, aa, nn⟩).set 0 (.int .i64 MV) from rfl)
                    have h2 := h.set (j := 1) (t' := ⟨MV, CN + 1, aa, nn⟩) (i := 0) rfl (by decide) (show _ = (tuE ⟨MV, CN, aa, nn⟩).set 1 (.int .i64 (CN + 1)) from rfl)
                    simp only [Nat.zero_mul, Nat.zero_add, List.set_cons_zero] at h2
                    exact h2)
                  have HF2 := Lib.hid (HX.out.2.trans (if_pos z))
                  go_wp2_with fail
                  go_roundg (ev.toNat - (e + 1))
                  case measure => have := HQ2.out; have := HEL.out; omega
                  case rel => exact ⟨e + 1, by rw [show (((e + 1 : Nat) : Int)) = (e : Int) + 1 from rfl, HMO.out HND.out], by go_num, rfl, by have := HEL.out; omega, Lib.hid (by
                    rw [show (((e + 1 : Nat) : Int)) = (e : Int) + 1 from rfl, HX.out.1, HF2.out]
                    first | exact T5.out | (have h := T5.out; simp only [z, Int.zero_add] at h ⊢; exact h) | exact T5.out.later (by (repeat' (first | (with_reducible exact G.refl _) | (with_reducible refine G.drewN ?_ _) | (with_reducible refine G.drew ?_) | (with_reducible refine G.alloc ?_ _))))), by have := HS4.out; simp [World.setCell]; omega, by repeat' (first | (with_reducible exact g24) | (with_reducible refine G.drew ?_) | (with_reducible refine G.drewN ?_ _) | (with_reducible refine G.setCell ?_ (by exact HSB.out) _))⟩
                · have z2 : (CN == 0) = false := beq_false_of_ne z
                  have T5 := Lib.hid (by
                    have h2 := T4.out.set (j := 1) (t' := ⟨FN, CN + 1, aa, nn⟩) (i := 0) rfl (by decide) (show _ = (tuE ⟨FN, CN, aa, nn⟩).set 1 (.int .i64 (CN + 1)) from rfl)
                    simp only [Nat.zero_mul, Nat.zero_add, List.set_cons_zero] at h2
                    exact h2)
                  have HF2 := Lib.hid (HX.out.2.trans (if_neg z))
                  go_wp2_with fail
                  go_roundg (ev.toNat - (e + 1))
                  case measure => have := HQ2.out; have := HEL.out; omega
                  case rel => exact ⟨e + 1, by rw [show (((e + 1 : Nat) : Int)) = (e : Int) + 1 from rfl, HMO.out HND.out], by go_num, rfl, by have := HEL.out; omega, Lib.hid (by
                    rw [show (((e + 1 : Nat) : Int)) = (e : Int) + 1 from rfl, HX.out.1, HF2.out]
                    first | exact T5.out | (have h := T5.out; simp only [z, Int.zero_add] at h ⊢; exact h) | exact T5.out.later (by (repeat' (first | (with_reducible exact G.refl _) | (with_reducible refine G.drewN ?_ _) | (with_reducible refine G.drew ?_) | (with_reducible refine G.alloc ?_ _))))), by have := HS4.out; simp [World.setCell]; omega, by repeat' (first | (with_reducible exact g24) | (with_reducible refine G.drew ?_) | (with_reducible refine G.drewN ?_ _) | (with_reducible refine G.setCell ?_ (by exact HSB.out) _))⟩
              · have HHH := Lib.hid hit
                have HX := Lib.hid (HCN.out hit)
                clear hit
                go_wp2_with fail
                refine (rIn_any _ _ _ _ _ _ (by have := HII.out; omega) (by have := HII.out; omega)).mono ?_
                rintro x w4 ⟨rfl, hG4⟩
                rw [decide_eq_false HHH.out]
                have g4 : G _ w4 := G.trans (by (repeat' (first | (with_reducible exact G.refl _) | (with_reducible refine G.drewN ?_ _) | (with_reducible refine G.drew ?_) | (with_reducible refine G.alloc ?_ _)))) hG4
                have HS4 := Lib.hid (Nat.le_trans HSZ2.out g4.size)
                clear x0 x1 x2 x3
                go_wp2_with fail
                go_roundg (ev.toNat - (e + 1))
                case measure => have := HQ2.out; have := HEL.out; omega
                case rel => exact ⟨e + 1, by rw [show (((e + 1 : Nat) : Int)) = (e : Int) + 1 from rfl, HMO.out HND.out], by go_num, rfl, by have := HEL.out; omega, Lib.hid (by
                  rw [show (((e + 1 : Nat) : Int)) = (e : Int) + 1 from rfl, HX.out, HFS.out HX.out]
                  exact hTW.out.later (g4.trans (by (repeat' (first | (with_reducible exact G.refl _) | (with_reducible refine G.drewN ?_ _) | (with_reducible refine G.drew ?_) | (with_reducible refine G.alloc ?_ _)))))), by have := HS4.out; first | exact this | (simp; omega), gr2.trans (g4.trans (by (repeat' (first | (with_reducible exact G.refl _) | (with_reducible refine G.drewN ?_ _) | (with_reducible refine G.drew ?_) | (with_reducible refine G.alloc ?_ _)))))⟩
          · have hee : (e : Int) = ev := by omega
            have HC := Lib.hid (show cN p q ⟨f, cc, aa, nn⟩ e = (delT p q ⟨f, cc, aa, nn⟩).c by rw [hee]; exact cN_all HT.out)
            have HFF := Lib.hid (show (delT p q ⟨f, cc, aa, nn⟩).c ≠ 0 → fN p q ⟨f, cc, aa, nn⟩ e = (delT p q ⟨f, cc, aa, nn⟩).f by rw [hee]; exact fN_all HT.out)
            obtain ⟨CN, hCN⟩ : ∃ z : Int, Hid (cN p q ⟨f, cc, aa, nn⟩ e = z) := ⟨_, rfl⟩
            obtain ⟨FN, hFN⟩ : ∃ z : Int, Hid (fN p q ⟨f, cc, aa, nn⟩ e = z) := ⟨_, rfl⟩
            rw [hCN.out] at HC t1
            rw [hFN.out] at HFF t0
            have HSZ3 := Lib.hid gr2.size
            have HGS := Lib.hid gr.size
            by_cases hpos : 0 < CN
            · have HX := Lib.hid (show delL p q (l.take (i + 1)) = delL p q (l.take i) ++ [⟨FN, CN, aa, nn⟩] by
                rw [HNX.out, if_pos (by rw [← HC.out]; exact hpos), HFF.out (by rw [← HC.out]; omega), HC.out]; rfl)
              go_wp2_with (at_builtin; refine wpList_append_own _ rfl _ _ 27 rfl w.heap.size 39 i0 (.agg #[.int .i64 0, .int .i64 0, .int .i64 0, .int .i64 0]) 4 32 Try.underlying27 hi0 hz0 hz1 hz2 rfl (by decide) v (delL p q (l.take i)).length ((delL p q (l.take i)).flatMap tuE) rfl (hR.out.later (gr2.trans (by (repeat' (first | (with_reducible exact G.refl _) | (with_reducible assumption) | (with_reducible refine G.drewN ?_ _) | (with_reducible refine G.drew ?_) | (with_reducible refine G.alloc ?_ _) | (with_reducible refine G.setCell ?_ (by first | (with_reducible exact Nat.le_refl _) | (simp; done) | (simp; omega) | omega) _) | (with_reducible refine G.trans ?_ (by assumption))))))) ⟨_, 0, none⟩ 1 1 [.int .i64 FN, .int .i64 CN, .int .i64 aa, .int .i64 nn] rfl rfl (new_add _ _ [.int .i64 FN, .int .i64 CN, .int .i64 aa, .int .i64 nn] _ (by simp [go_sem])) (by simp [Value.oneCell']) (by unfold maxLen; have := HLT.out; omega) (by have := HLT.out; omega) (by have := HSZ3.out; have := HGS.out; simp [go_sem]; omega) ?_; intro v' w6 hown' hgrow _)
              have RN := Lib.hid (Row.more (enc := tuE) (M := delL p q (l.take i)) (x := ⟨FN, CN, aa, nn⟩) hown')
              have gN : G w w6 := Below.grown (B := w.heap.size) (show G w _ from gr.trans (gr2.trans (by (repeat' (first | (with_reducible exact G.refl _) | (with_reducible assumption) | (with_reducible refine G.drewN ?_ _) | (with_reducible refine G.drew ?_) | (with_reducible refine G.alloc ?_ _) | (with_reducible refine G.setCell ?_ (by first | (with_reducible exact Nat.le_refl _) | (simp; done) | (simp; omega) | omega) _) | (with_reducible refine G.trans ?_ (by assumption))))))) hgrow (by have := HSZ3.out; have := HGS.out; simp [go_sem]; omega) (fun k hk => hR.out.own k hk)
              go_roundg (n - (i + 1))
              case measure => have := HQ.out; have := HI.out; omega
              case rel => exact ⟨i + 1, v', rfl, by first | rfl | go_num, rfl, by have := HI.out; omega, Lib.hid (by rw [HX.out]; exact RN.out), gN⟩
            · have HX := Lib.hid (show delL p q (l.take (i + 1)) = delL p q (l.take i) by rw [HNX.out, if_neg (by rw [← HC.out]; exact hpos), List.append_nil])
              go_wp2_with fail
              go_roundg (n - (i + 1))
              case measure => have := HQ.out; have := HI.out; omega
              case rel => exact ⟨i + 1, v, rfl, by first | rfl | go_num, rfl, by have := HI.out; omega, Lib.hid (by rw [HX.out]; exact hR.out.later (gr2.trans (by (repeat' (first | (with_reducible exact G.refl _) | (with_reducible assumption) | (with_reducible refine G.drewN ?_ _) | (with_reducible refine G.drew ?_) | (with_reducible refine G.alloc ?_ _) | (with_reducible refine G.setCell ?_ (by first | (with_reducible exact Nat.le_refl _) | (simp; done) | (simp; omega) | omega) _) | (with_reducible refine G.trans ?_ (by assumption))))))), gr.trans (gr2.trans (by (repeat' (first | (with_reducible exact G.refl _) | (with_reducible assumption) | (with_reducible refine G.drewN ?_ _) | (with_reducible refine G.drew ?_) | (with_reducible refine G.alloc ?_ _) | (with_reducible refine G.setCell ?_ (by first | (with_reducible exact Nat.le_refl _) | (simp; done) | (simp; omega) | omega) _) | (with_reducible refine G.trans ?_ (by assumption))))))⟩
    · have hii : i = n := by omega
      have hR2 := hR.out
      rw [hii, List.take_of_length_le (by have := HL.out; omega)] at hR2
      obtain ⟨pa, pc, rfl, hTA, _⟩ := hR2.tusz
      have HTA := Lib.hid hTA
      have HDL := Lib.hid (show (delL p q l).length ≤ 20 from Nat.le_trans (delL_len _ _ _) (by have := HL.out; omega))
      clear hTA hR2 hR
      go_wp2_with fail
      refine (rSort_any pa _ _ pc _ rfl HDL.out (HTA.out.later (by (repeat' (first | (with_reducible exact G.refl _) | (with_reducible assumption) | (with_reducible refine G.drewN ?_ _) | (with_reducible refine G.drew ?_) | (with_reducible refine G.alloc ?_ _) | (with_reducible refine G.setCell ?_ (by first | (with_reducible exact Nat.le_refl _) | (simp; done) | (simp; omega) | omega) _) | (with_reducible refine G.trans ?_ (by assumption))))))).mono ?_
      rintro e w5 ⟨v5, rfl, hR5, hG5⟩
      have HR5 : Hid (Row tuE 39 4 w.heap.size w5 v5 (sortT (delL p q l))) := Lib.hid (own_base hR5 (show w.heap.size ≤ _ from (show G w _ from gr.trans (by (repeat' (first | (with_reducible exact G.refl _) | (with_reducible assumption) | (with_reducible refine G.drewN ?_ _) | (with_reducible refine G.drew ?_) | (with_reducible refine G.alloc ?_ _) | (with_reducible refine G.setCell ?_ (by first | (with_reducible exact Nat.le_refl _) | (simp; done) | (simp; omega) | omega) _) | (with_reducible refine G.trans ?_ (by assumption)))))).size))
      clear hR5
      go_wp2_with fail
      go_ret
      exact ⟨_, rfl, Row.later HR5.out (by (repeat' (first | (with_reducible exact G.refl _) | (with_reducible assumption) | (with_reducible refine G.drewN ?_ _) | (with_reducible refine G.drew ?_) | (with_reducible refine G.alloc ?_ _) | (with_reducible refine G.setCell ?_ (by first | (with_reducible exact Nat.le_refl _) | (simp; done) | (simp; omega) | omega) _) | (with_reducible refine G.trans ?_ (by assumption))))), gr.trans (by (repeat' (first | (with_reducible exact G.refl _) | (with_reducible assumption) | (with_reducible refine G.drewN ?_ _) | (with_reducible refine G.drew ?_) | (with_reducible refine G.alloc ?_ _) | (with_reducible refine G.setCell ?_ (by first | (with_reducible exact Nat.le_refl _) | (simp; done) | (simp; omega) | omega) _) | (with_reducible refine G.trans ?_ (by assumption)))))⟩
end Go.Proofs.Ytabaiklagobimaa
