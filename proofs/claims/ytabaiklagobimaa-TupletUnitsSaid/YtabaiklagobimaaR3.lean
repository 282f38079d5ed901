import Derived.Test.YtabaiklagobimaaT8
import Derived.Test.YtabaiklagobimaaR2
/-! Tuplets: the reference's Scale and Lengths; sums; equal lists. -/
namespace Go.Proofs.Ytabaiklagobimaa
open Go.RowKit
attribute [local go_sem] World.cell?_alloc_some

set_option maxRecDepth 100000 in
set_option maxHeartbeats 12800000 in
theorem rScale_any (a : Option Addr) (l : List Tu) (n c k : Nat) (e x : Int) (w : World) (hn : l.length = n) (hl : n ≤ 20) (hk : k ≤ n) (h1 : TusAt w a l) (hF : Fit (l.drop k)) (hx0 : 0 ≤ x) (hx1 : x ≤ 7741440) :
    Calls Try.prog 29 #[.slice a n c, .int .i64 k, .int .i64 e, .int .i64 x] w fun r w' => r = .returned (.tuple #[.int .i64 (x * (prT (l.drop k) e).1 / (prT (l.drop k) e).2), .bool (decide (x * (prT (l.drop k) e).1 % (prT (l.drop k) e).2 = 0))]) ∧ G w w' := by
  subst hn
  have H1 := Lib.hid h1
  have HF := Lib.hid hF
  have HX := Lib.hid (And.intro hx0 hx1)
  have HKL := Lib.hid (And.intro hk hl)
  obtain ⟨V, hV⟩ : ∃ z : Int, Hid (z = x * (prT (l.drop k) e).1 / (prT (l.drop k) e).2) := ⟨_, rfl⟩
  obtain ⟨E, hE⟩ : ∃ z : Bool, Hid (z = decide (x * (prT (l.drop k) e).1 % (prT (l.drop k) e).2 = 0)) := ⟨_, rfl⟩
  rw [← hV.out, ← hE.out]
  clear h1 hF hx0 hx1 hk hl
  go_enter Try.func29, Try.ntmps29
  go_wp2_with fail
  go_loopg [10, 11, 12] (l.length - k) (fun q y z u wr => ∃ (i j : Nat) (A B : Int), y = .int .i64 A ∧ z = .int .i64 B ∧ u = .int .i64 i ∧ i = k + j ∧ q = l.length - i ∧ i ≤ l.length ∧ Hid (scT ((l.drop k).take j) e x = (A, B)) ∧ G w wr)
  case atStart => exact ⟨k, 0, x, 1, rfl, rfl, rfl, rfl, rfl, HKL.out.1, Lib.hid rfl, by (repeat' (first | (with_reducible exact G.refl _) | (with_reducible assumption) | (with_reducible refine G.drewN ?_ _) | (with_reducible refine G.drew ?_) | (with_reducible refine G.alloc ?_ _) | (with_reducible refine G.setCell ?_ (by first | (with_reducible exact Nat.le_refl _) | (simp; done) | (simp; omega) | omega) _) | (with_reducible refine G.trans ?_ (by assumption))))⟩
  case round =>
    obtain ⟨i, j, A, B, rfl, rfl, rfl, hij, hq, hi, hP, gr⟩ := hrel
    have HQ := Lib.hid hq
    have HIJ := Lib.hid hij
    clear hq hij
    have hsc := scT_eq ((l.drop k).take j) e x
    rw [hP.out] at hsc
    have hA : A = x * (prT ((l.drop k).take j) e).1 := (Prod.mk.inj hsc).1
    have hB : B = (prT ((l.drop k).take j) e).2 := (Prod.mk.inj hsc).2
    have hpr := HF.out.pr e j
    obtain ⟨⟨n0, n1⟩, d0, d1⟩ := hpr
    rw [← hB] at d0 d1
    have hA0 : 0 ≤ A := by rw [hA]; exact Int.mul_nonneg HX.out.1 (by omega)
    have hA1 : A ≤ 7741440 * 32768 := by rw [hA]; exact Int.mul_le_mul HX.out.2 n1 (by omega) (by omega)
    clear n0 n1 hsc
    have HAB := Lib.hid (And.intro hA hB)
    clear hA hB
    by_cases hin : i < l.length
    · obtain ⟨⟨f, cc, aa, nn⟩, hp⟩ : ∃ z, l[i]? = some z := ⟨l[i], List.getElem?_eq_getElem hin⟩
      rcases H1.out with hz | ⟨b0, of, rfl, fc⟩
      · rw [hz] at hin; exact absurd hin (by simp)
      obtain ⟨x0, x1, x2, x3⟩ := (fc i _ hp).later gr
      dsimp only at x0 x1 x2 x3
      have hpd : (l.drop k)[j]? = some ⟨f, cc, aa, nn⟩ := by rw [List.getElem?_drop, ← HIJ.out]; exact hp
      have hone := HF.out.one _ (List.mem_of_getElem? hpd)
      have HO := Lib.hid (show (-9223372036854775808 ≤ f + cc ∧ f + cc ≤ 9223372036854775807) by have := hone.1; have := hone.2.1; have := hone.2.2.1; dsimp only at *; omega)
      obtain ⟨⟨a0, a1⟩, m0, m1⟩ := hone.2.2.2
      dsimp only at a0 a1 m0 m1
      have HNX := Lib.hid (show scT ((l.drop k).take (j + 1)) e x = if InT ⟨f, cc, aa, nn⟩ e then (A * nn, B * aa) else (A, B) by rw [scT_next e x hpd, hP.out]; rfl)
      have b1 : (0 : Int) ≤ (i : Int) := by omega
      have b2 : (i : Int) < (l.length : Int) := by omega
      have q1 := IntWalk.i64_in ((i : Int) + 1) (by have := HKL.out; omega)
      have p1 : A * nn ≤ (7741440 * 32768) * 32 := Int.mul_le_mul hA1 m1 (by omega) (by omega)
      have p2 : 0 ≤ A * nn := Int.mul_nonneg (by omega) (by omega)
      have p3 : B * aa ≤ 32768 * 32 := Int.mul_le_mul d1 a1 (by omega) (by omega)
      have p4 : 0 ≤ B * aa := Int.mul_nonneg (by omega) (by omega)
      have q2 := IntWalk.i64_in (A * nn) (by omega)
      have q3 := IntWalk.i64_in (B * aa) (by omega)
      clear fc hone hp hpd d0 d1 a0 a1 m0 m1 p1 p2 p3 p4 hA0 hA1
      by_cases hit : InT ⟨f, cc, aa, nn⟩ e
      · have HN := Lib.hid (show scT ((l.drop k).take (j + 1)) e x = (A * nn, B * aa) by rw [HNX.out, if_pos hit])
        have HIT := Lib.hid hit
        clear hit
        go_wp2_with fail
        refine (rIn_any _ _ _ _ _ _ HO.out.1 HO.out.2).mono ?_
        rintro x w2 ⟨rfl, hG2⟩
        have gN : G wr w2 := G.trans (by (repeat' (first | (with_reducible exact G.refl _) | (with_reducible refine G.drewN ?_ _) | (with_reducible refine G.drew ?_) | (with_reducible refine G.alloc ?_ _)))) hG2
        have y2 := gN.at x2
        have y3 := gN.at x3
        clear x0 x1 x2 x3
        rw [decide_eq_true HIT.out]
        go_wp2_with fail
        go_big_region
        all_goals
          go_wp2_with fail
          go_roundg (l.length - (i + 1))
          case measure => have := HQ.out; omega
          case rel => exact ⟨i + 1, j + 1, A * nn, B * aa, by go_num, by go_num, by go_num, by have := HIJ.out; omega, rfl, by omega, HN, by (repeat' (first | (with_reducible exact G.refl _) | (with_reducible assumption) | (with_reducible refine G.drewN ?_ _) | (with_reducible refine G.drew ?_) | (with_reducible refine G.alloc ?_ _) | (with_reducible refine G.setCell ?_ (by first | (with_reducible exact Nat.le_refl _) | (simp; done) | (simp; omega) | omega) _) | (with_reducible refine G.trans ?_ (by assumption))))⟩
      · have HN := Lib.hid (show scT ((l.drop k).take (j + 1)) e x = (A, B) by rw [HNX.out, if_neg hit])
        have HIT := Lib.hid hit
        clear hit
        go_wp2_with fail
        refine (rIn_any _ _ _ _ _ _ HO.out.1 HO.out.2).mono ?_
        rintro x w2 ⟨rfl, hG2⟩
        rw [decide_eq_false HIT.out]
        clear x0 x1 x2 x3
        go_wp2_with fail
        go_roundg (l.length - (i + 1))
        case measure => have := HQ.out; omega
        case rel => exact ⟨i + 1, j + 1, A, B, rfl, rfl, by go_num, by have := HIJ.out; omega, rfl, by omega, HN, by (repeat' (first | (with_reducible exact G.refl _) | (with_reducible assumption) | (with_reducible refine G.drewN ?_ _) | (with_reducible refine G.drew ?_) | (with_reducible refine G.alloc ?_ _) | (with_reducible refine G.setCell ?_ (by first | (with_reducible exact Nat.le_refl _) | (simp; done) | (simp; omega) | omega) _) | (with_reducible refine G.trans ?_ (by assumption))))⟩
    · have hii : i = l.length := by omega
      subst hii
      have hj : (l.drop k).take j = l.drop k := List.take_of_length_le (by rw [List.length_drop]; have := HIJ.out; omega)
      have hA := HAB.out.1
      have hB := HAB.out.2
      rw [hj] at hA hB
      have HV := Lib.hid (show V = A / B by rw [hV.out, hA, hB])
      have HE := Lib.hid (show E = (A % B == 0) by rw [hE.out, ← hA, ← hB, Bool.beq_eq_decide_eq])
      have q2 : A.tmod B = A % B := Int.tmod_eq_emod_of_nonneg hA0
      have q3 : A.tdiv B = A / B := Int.tdiv_eq_ediv_of_nonneg hA0
      have q4 : (B == 0) = false := beq_false_of_ne (by omega)
      have q6 : 0 ≤ A / B := Int.ediv_nonneg hA0 (by omega)
      have q7 : A / B ≤ A := Int.ediv_le_self _ hA0
      have q5 := IntWalk.i64_in (A / B) (by omega)
      have q8 : (0 : Int) < B := by omega
      have q9 : ¬ B = 0 := by omega
      clear q6 q7 hA hB d1 hA1 hj
      go_wp2_with fail
      go_big_region
      all_goals
        go_wp2_with fail
        go_returns
        exact ⟨by rw [HV.out, HE.out]; first | done | rfl | simp [bne], by (repeat' (first | (with_reducible exact G.refl _) | (with_reducible assumption) | (with_reducible refine G.drewN ?_ _) | (with_reducible refine G.drew ?_) | (with_reducible refine G.alloc ?_ _) | (with_reducible refine G.setCell ?_ (by first | (with_reducible exact Nat.le_refl _) | (simp; done) | (simp; omega) | omega) _) | (with_reducible refine G.trans ?_ (by assumption))))⟩

def LensQ (w' : World) (l : List Tu) (r : List Int) (v : Value) : Prop :=
  if lensT l r = 0 then ∃ a cap, v = .slice a r.length cap ∧ IntsAt w' a (lens l 0 r) else v = .slice none 0 0
theorem LensQ.later {w w' : World} {l : List Tu} {r : List Int} {v : Value} (h : LensQ w l r v) (g : G w w') : LensQ w' l r v := by
  unfold LensQ at h ⊢
  split
  · rw [if_pos (by assumption)] at h
    obtain ⟨b, c, h1, h2⟩ := h
    exact ⟨b, c, h1, h2.later g⟩
  · rw [if_neg (by assumption)] at h; exact h
theorem LensR.q {w : World} {l : List Tu} {r : List Int} {v : Value} (h : LensR w l r v) : LensQ w l r v := by
  unfold LensR at h
  unfold LensQ
  split
  · rw [if_pos (by assumption)] at h
    obtain ⟨g, h1, h2⟩ := h
    exact ⟨some ⟨g, 0, none⟩, r.length, h1, .inr ⟨g, 0, rfl, fun j x hx => by rw [Nat.zero_add]; exact h2 j x hx⟩⟩
  · rw [if_neg (by assumption)] at h; exact h
theorem Row.ints {e : TypeId} {base : Nat} {w : World} {v : Value} {l : List Int} (h : Row inE e 1 base w v l) : ∃ a c, v = .slice a l.length c ∧ IntsAt w a l := by
  rcases h.cells inE_len with ⟨rfl, rfl⟩ | ⟨g, cap, rfl, _, _, _, hc⟩
  · exact ⟨none, 0, rfl, .inl rfl⟩
  · refine ⟨_, _, rfl, .inr ⟨g, 0, rfl, fun i n hn => ?_⟩⟩
    have := (hc i n hn 0 _ rfl).1
    rw [Nat.zero_add]
    simpa using this
theorem lens_take {l : List Tu} {r : List Int} {i : Nat} {x : Int} (h : r[i]? = some x) : (lens l 0 r).take (i + 1) = (lens l 0 r).take i ++ [lenV l i x] := by
  have := lens_at l r 0 i x h
  rw [List.take_add_one, this, Int.zero_add]
  rfl
theorem fit_zero {l : List Tu} (h : Fit l) : Fit (l.drop 0) := by simpa using h

set_option maxRecDepth 100000 in
set_option maxHeartbeats 12800000 in
theorem rLengths_any (a b : Option Addr) (l : List Tu) (r : List Int) (n c m d : Nat) (w : World) (hn : l.length = n) (hm : r.length = m) (hm2 : m ≤ 1000) (h1 : TusAt w a l) (h2 : IntsAt w b r) :
    Calls Try.prog 25 #[.slice a n c, .slice b m d] w fun e w' => ∃ v, e = .returned (.tuple #[v, .int .i64 (lensT l r)]) ∧ LensQ w' l r v ∧ G w w' := by
  subst hn hm
  obtain ⟨i0, hi0, hz0, hz1, hz2⟩ := info_parts' iInfo
  have H1 := Lib.hid h1
  have H2 := Lib.hid h2
  clear h1 h2
  obtain ⟨E, hE⟩ : ∃ z : Int, Hid (z = lensT l r) := ⟨_, rfl⟩
  rw [← hE.out]
  by_cases hk : ckT r.length l = 0
  rotate_left
  · have HE := Lib.hid (show E = ckT r.length l by rw [hE.out]; exact if_neg hk)
    have HNE : E ≠ 0 := by rw [HE.out]; exact hk
    have e3 : (E == 0) = false := beq_false_of_ne HNE
    have e4 : (E != 0) = true := by simp [bne, e3]
    have HN := Lib.hid (show ¬ lensT l r = 0 by rw [← hE.out]; exact HNE)
    clear HNE hk
    go_enter Try.func25, Try.ntmps25
    go_wp2_with fail
    refine (rCheck_any a l _ c _ _ rfl (H1.out.later (by (repeat' (first | (with_reducible exact G.refl _) | (with_reducible assumption) | (with_reducible refine G.drewN ?_ _) | (with_reducible refine G.drew ?_) | (with_reducible refine G.alloc ?_ _) | (with_reducible refine G.setCell ?_ (by first | (with_reducible exact Nat.le_refl _) | (simp; done) | (simp; omega) | omega) _) | (with_reducible refine G.trans ?_ (by assumption))))))).mono ?_
    rintro e w1 ⟨rfl, hG⟩
    rw [← HE.out]
    go_wp2_with fail
    go_returns
    exact ⟨_, rfl, by unfold LensQ; rw [if_neg HN.out]; rfl, by (repeat' (first | (with_reducible exact G.refl _) | (with_reducible assumption) | (with_reducible refine G.drewN ?_ _) | (with_reducible refine G.drew ?_) | (with_reducible refine G.alloc ?_ _) | (with_reducible refine G.setCell ?_ (by first | (with_reducible exact Nat.le_refl _) | (simp; done) | (simp; omega) | omega) _) | (with_reducible refine G.trans ?_ (by assumption))))⟩
  have hl20 : l.length ≤ 20 := by have := (ckT_ok hk).2.1; omega
  have HF := Lib.hid (ckT_fit hk)
  have HE := Lib.hid (show E = lensE l 0 r by rw [hE.out]; exact if_pos hk)
  have HK := Lib.hid hk
  have HL20 := Lib.hid hl20
  have HM := Lib.hid hm2
  clear hk hl20 hm2
  go_enter Try.func25, Try.ntmps25
  go_wp2_with fail
  refine (rCheck_any a l _ c _ _ rfl (H1.out.later (by (repeat' (first | (with_reducible exact G.refl _) | (with_reducible assumption) | (with_reducible refine G.drewN ?_ _) | (with_reducible refine G.drew ?_) | (with_reducible refine G.alloc ?_ _) | (with_reducible refine G.setCell ?_ (by first | (with_reducible exact Nat.le_refl _) | (simp; done) | (simp; omega) | omega) _) | (with_reducible refine G.trans ?_ (by assumption))))))).mono ?_
  rintro e w1 ⟨rfl, hG⟩
  rw [HK.out]
  go_wp2_with fail
  go_loopg [7, 8] r.length (fun q y x wr => ∃ (i : Nat) (v : Value), v = y ∧ x = .int .i64 i ∧ q = r.length - i ∧ i ≤ r.length ∧ Hid (E = lensE l i (r.drop i)) ∧ Hid (Row inE 3 1 w.heap.size wr v ((lens l 0 r).take i)) ∧ G w wr)
  case atStart => exact ⟨0, _, rfl, rfl, by omega, by omega, Lib.hid HE.out, Lib.hid (by simpa using Row.nil (enc := inE) w1), by (repeat' (first | (with_reducible exact G.refl _) | (with_reducible assumption) | (with_reducible refine G.drewN ?_ _) | (with_reducible refine G.drew ?_) | (with_reducible refine G.alloc ?_ _) | (with_reducible refine G.setCell ?_ (by first | (with_reducible exact Nat.le_refl _) | (simp; done) | (simp; omega) | omega) _) | (with_reducible refine G.trans ?_ (by assumption))))⟩
  case round =>
    obtain ⟨i, v, rfl, rfl, hq, hi, hA, hR, gr⟩ := hrel
    have HQ := Lib.hid hq
    clear hq
    by_cases hin : i < r.length
    · obtain ⟨x, hx⟩ : ∃ z, r[i]? = some z := ⟨r[i], List.getElem?_eq_getElem hin⟩
      rcases H2.out with hz | ⟨b0, of, rfl, fc⟩
      · rw [hz] at hin; exact absurd hin (by simp)
      have x0 := gr.at (fc i _ hx)
      have HX := Lib.hid hx
      have b1 : (0 : Int) ≤ (i : Int) := by omega
      have b2 : (i : Int) < (r.length : Int) := by omega
      have q1 := IntWalk.i64_in ((i : Int) + 1) (by have := HM.out; omega)
      have HST := Lib.hid (fun h0 : lenE l i x = 0 => lensE_step (l := l) hx h0)
      have HSP := Lib.hid (fun h0 : lenE l i x ≠ 0 => lensE_stop (l := l) hx h0)
      have HTK := Lib.hid (lens_take (l := l) hx)
      have HLT := Lib.hid (show ((lens l 0 r).take i).length = i by rw [List.length_take, lens_len]; omega)
      have HNN := Lib.hid (show E ≠ 0 → ¬ lensT l r = 0 by rw [← hE.out]; exact id)
      clear fc hx
      by_cases k1 : x < 0
      · have HR := Lib.hid (show E = 2 by
          have h2 : lenE l i x = 2 := if_neg (by omega)
          rw [hA.out, HSP.out (by rw [h2]; decide), h2])
        have HN := Lib.hid (HNN.out (by rw [HR.out]; decide))
        go_wp2_with fail
        go_returns
        exact ⟨_, by rw [HR.out]; rfl, by unfold LensQ; rw [if_neg HN.out]; rfl, by (repeat' (first | (with_reducible exact G.refl _) | (with_reducible assumption) | (with_reducible refine G.drewN ?_ _) | (with_reducible refine G.drew ?_) | (with_reducible refine G.alloc ?_ _) | (with_reducible refine G.setCell ?_ (by first | (with_reducible exact Nat.le_refl _) | (simp; done) | (simp; omega) | omega) _) | (with_reducible refine G.trans ?_ (by assumption))))⟩
      by_cases k2 : 7741440 < x
      · have HR := Lib.hid (show E = 2 by
          have h2 : lenE l i x = 2 := if_neg (by omega)
          rw [hA.out, HSP.out (by rw [h2]; decide), h2])
        have HN := Lib.hid (HNN.out (by rw [HR.out]; decide))
        go_wp2_with fail
        go_returns
        exact ⟨_, by rw [HR.out]; rfl, by unfold LensQ; rw [if_neg HN.out]; rfl, by (repeat' (first | (with_reducible exact G.refl _) | (with_reducible assumption) | (with_reducible refine G.drewN ?_ _) | (with_reducible refine G.drew ?_) | (with_reducible refine G.alloc ?_ _) | (with_reducible refine G.setCell ?_ (by first | (with_reducible exact Nat.le_refl _) | (simp; done) | (simp; omega) | omega) _) | (with_reducible refine G.trans ?_ (by assumption))))⟩
      have HXX := Lib.hid (show 0 ≤ x ∧ x ≤ 7741440 by omega)
      by_cases h0 : x * (prT l i).1 % (prT l i).2 = 0
      · have HEV := Lib.hid (show lenE l i x = 0 ∧ lenV l i x = x * (prT l i).1 / (prT l i).2 by
          unfold lenE lenV
          rw [if_pos HXX.out, if_pos h0, if_pos HXX.out, if_pos h0]; exact ⟨rfl, rfl⟩)
        have HD := Lib.hid (decide_eq_true h0)
        clear h0
        go_wp2_with fail
        refine (rScale_any a l l.length c 0 i x _ rfl HL20.out (Nat.zero_le _) (H1.out.later (by (repeat' (first | (with_reducible exact G.refl _) | (with_reducible assumption) | (with_reducible refine G.drewN ?_ _) | (with_reducible refine G.drew ?_) | (with_reducible refine G.alloc ?_ _) | (with_reducible refine G.setCell ?_ (by first | (with_reducible exact Nat.le_refl _) | (simp; done) | (simp; omega) | omega) _) | (with_reducible refine G.trans ?_ (by assumption)))))) (fit_zero HF.out) HXX.out.1 HXX.out.2).mono ?_
        rintro e w2 ⟨rfl, hG2⟩
        rw [List.drop_zero, HD.out, ← HEV.out.2]
        have g2 : G wr w2 := G.trans (by (repeat' (first | (with_reducible exact G.refl _) | (with_reducible refine G.drewN ?_ _) | (with_reducible refine G.drew ?_) | (with_reducible refine G.alloc ?_ _)))) hG2
        go_wp2_with (at_builtin; refine wpList_append_own _ rfl _ _ 40 rfl w.heap.size 3 i0 (.int .i64 0) 1 8 Try.underlying40 hi0 hz0 hz1 hz2 rfl (by decide) v ((lens l 0 r).take i).length (((lens l 0 r).take i).flatMap inE) rfl (hR.out.later (show G wr _ by (repeat' (first | (with_reducible exact G.refl _) | (with_reducible assumption) | (with_reducible refine G.drewN ?_ _) | (with_reducible refine G.drew ?_) | (with_reducible refine G.alloc ?_ _) | (with_reducible refine G.setCell ?_ (by first | (with_reducible exact Nat.le_refl _) | (simp; done) | (simp; omega) | omega) _) | (with_reducible refine G.trans ?_ (by assumption)))))) ⟨w2.heap.size, 0, none⟩ 1 1 [.int .i64 (lenV l i x)] rfl rfl (new_add _ _ [.int .i64 (lenV l i x)] _ (by simp [go_sem])) (by simp [Value.oneCell']) (by unfold maxLen; rw [HLT.out]; have := HM.out; omega) (by rw [HLT.out]; have := HM.out; omega) (by have := gr.size; have := g2.size; simp [go_sem]; omega) ?_; intro v' w6 hown' hgrow _)
        have RN := Lib.hid (Row.more (enc := inE) (M := (lens l 0 r).take i) (x := lenV l i x) hown')
        have gN : G w w6 := Below.grown (B := w.heap.size) (show G w _ by (repeat' (first | (with_reducible exact G.refl _) | (with_reducible assumption) | (with_reducible refine G.drewN ?_ _) | (with_reducible refine G.drew ?_) | (with_reducible refine G.alloc ?_ _) | (with_reducible refine G.setCell ?_ (by first | (with_reducible exact Nat.le_refl _) | (simp; done) | (simp; omega) | omega) _) | (with_reducible refine G.trans ?_ (by assumption))))) hgrow (by have := gr.size; have := g2.size; simp [go_sem]; omega) (fun k hk => hR.out.own k hk)
        go_roundg (r.length - (i + 1))
        case measure => have := HQ.out; omega
        case rel => exact ⟨i + 1, v', rfl, by go_num, rfl, by omega, Lib.hid (by rw [hA.out, HST.out HEV.out.1]), Lib.hid (by rw [HTK.out]; exact RN.out), gN⟩
      · have HR := Lib.hid (show E = 16 by
          have h2 : lenE l i x = 16 := by unfold lenE; rw [if_pos HXX.out, if_neg h0]
          rw [hA.out, HSP.out (by rw [h2]; decide), h2])
        have HN := Lib.hid (HNN.out (by rw [HR.out]; decide))
        have HD := Lib.hid (decide_eq_false h0)
        clear h0
        go_wp2_with fail
        refine (rScale_any a l l.length c 0 i x _ rfl HL20.out (Nat.zero_le _) (H1.out.later (by (repeat' (first | (with_reducible exact G.refl _) | (with_reducible assumption) | (with_reducible refine G.drewN ?_ _) | (with_reducible refine G.drew ?_) | (with_reducible refine G.alloc ?_ _) | (with_reducible refine G.setCell ?_ (by first | (with_reducible exact Nat.le_refl _) | (simp; done) | (simp; omega) | omega) _) | (with_reducible refine G.trans ?_ (by assumption)))))) (fit_zero HF.out) HXX.out.1 HXX.out.2).mono ?_
        rintro e w2 ⟨rfl, hG2⟩
        rw [List.drop_zero, HD.out]
        go_wp2_with fail
        go_returns
        exact ⟨_, by rw [HR.out]; rfl, by unfold LensQ; rw [if_neg HN.out]; rfl, by (repeat' (first | (with_reducible exact G.refl _) | (with_reducible assumption) | (with_reducible refine G.drewN ?_ _) | (with_reducible refine G.drew ?_) | (with_reducible refine G.alloc ?_ _) | (with_reducible refine G.setCell ?_ (by first | (with_reducible exact Nat.le_refl _) | (simp; done) | (simp; omega) | omega) _) | (with_reducible refine G.trans ?_ (by assumption))))⟩
    · have hii : i = r.length := by omega
      subst hii
      have HE0 := Lib.hid (show E = 0 by rw [hA.out, List.drop_length]; rfl)
      have HN := Lib.hid (show lensT l r = 0 by rw [← hE.out]; exact HE0.out)
      rw [List.take_of_length_le (by rw [lens_len]; exact Nat.le_refl _)] at hR
      obtain ⟨pa, pc, rfl, hI⟩ := hR.out.ints
      rw [lens_len]
      have HI := Lib.hid hI
      clear hI
      go_wp2_with fail
      go_returns
      refine ⟨.slice pa r.length pc, by rw [HE0.out]; first | done | rfl, ?_, by (repeat' (first | (with_reducible exact G.refl _) | (with_reducible assumption) | (with_reducible refine G.drewN ?_ _) | (with_reducible refine G.drew ?_) | (with_reducible refine G.alloc ?_ _) | (with_reducible refine G.setCell ?_ (by first | (with_reducible exact Nat.le_refl _) | (simp; done) | (simp; omega) | omega) _) | (with_reducible refine G.trans ?_ (by assumption))))⟩
      unfold LensQ
      rw [if_pos HN.out]
      exact ⟨pa, pc, rfl, HI.out⟩
end Go.Proofs.Ytabaiklagobimaa
