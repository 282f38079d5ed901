/- TupletSingle: for any up to 20 tuplets, any event and any written length, Length agrees with the definition, and tuplets that do not contain the event do not matter; the arguments read as before; no further condition. -/
import Derived.Test.YtabaiklagobimaaRows
import Derived.Test.YtabaiklagobimaaT9
import Derived.Test.YtabaiklagobimaaLaid
namespace Go.Proofs.Ytabaiklagobimaa
open Go.RowKit Go.ChangeShapes Go.WideShapes
attribute [local go_sem] World.cell?_alloc_some

set_option maxRecDepth 100000 in
set_option maxHeartbeats 12800000 in
theorem single_walk (a : Option Addr) (l0 : List Tu) (c : Nat) (e x : Int) (w : World) (hc : l0.length ≤ c) (_ : c ≤ maxLen) (h1 : TusAt w a l0) (_ : a = none → c = 0) (hwf : ∀ n ∈ l0, (Lit.int .i64 n.c).wf = true) (_ : -9223372036854775808 ≤ e) (_ : e ≤ 9223372036854775807) (_ : -9223372036854775808 ≤ x) (_ : x ≤ 9223372036854775807) :
    Calls Try.prog 7 #[.slice a l0.length c, .int .i64 e, .int .i64 x] w fun x w' => x = .returned (.bool true) ∧ G w w' := by
  by_cases k20 : (l0.length : Int) ≤ 20
  · have H1 := Lib.hid h1
    have HC := Lib.hid (cb_of hwf)
    have HN := Lib.hid (show l0.length = l0.length from rfl)
    have HK := Lib.hid (show l0.length ≤ 20 by omega)
    have m3 : (l0.length : Int) ≤ (c : Int) := by omega
    generalize l0 = l at *
    obtain ⟨n, hn⟩ : ∃ z : Nat, Hid (l.length = z) := ⟨_, rfl⟩
    rw [hn.out] at HK k20 m3 ⊢
    clear HN h1 hwf hc
    have HN := hn
    clear hn
    obtain ⟨V, hV⟩ : ∃ z : Int, Hid (lnV l e x = z) := ⟨_, rfl⟩
    obtain ⟨E, hE⟩ : ∃ z : Int, Hid (lnE l e x = z) := ⟨_, rfl⟩
    go_enter Try.func7, Try.ntmps7
    go_wp2_with fail
    refine (tLength_any a l n c e x _ HN.out HK.out (H1.out.later (by (repeat' (first | (with_reducible exact G.refl _) | (with_reducible assumption) | (with_reducible refine G.drewN ?_ _) | (with_reducible refine G.drew ?_) | (with_reducible refine G.alloc ?_ _) | (with_reducible refine G.setCell ?_ (by first | (with_reducible exact Nat.le_refl _) | (simp; done) | (simp; omega) | omega) _) | (with_reducible refine G.trans ?_ (by assumption)))))) HC.out).mono ?_
    rintro r w1 ⟨rfl, hG1⟩
    have g1 : G w w1 := G.trans (by (repeat' (first | (with_reducible exact G.refl _) | (with_reducible refine G.drewN ?_ _) | (with_reducible refine G.drew ?_) | (with_reducible refine G.alloc ?_ _)))) hG1
    rw [hV.out, hE.out]
    go_wp2_with fail
    refine (to_any a l n c _ HN.out HK.out (H1.out.later (g1.trans (by (repeat' (first | (with_reducible exact G.refl _) | (with_reducible assumption) | (with_reducible refine G.drewN ?_ _) | (with_reducible refine G.drew ?_) | (with_reducible refine G.alloc ?_ _) | (with_reducible refine G.setCell ?_ (by first | (with_reducible exact Nat.le_refl _) | (simp; done) | (simp; omega) | omega) _) | (with_reducible refine G.trans ?_ (by assumption)))))))).mono ?_
    rintro r w2 ⟨v, rfl, hR, hG2⟩
    have g2 : G w1 w2 := G.trans (by (repeat' (first | (with_reducible exact G.refl _) | (with_reducible refine G.drewN ?_ _) | (with_reducible refine G.drew ?_) | (with_reducible refine G.alloc ?_ _)))) hG2
    obtain ⟨a2, c2, rfl, hT2⟩ := hR.tus
    rw [HN.out]
    have H2 := Lib.hid hT2
    clear hR hT2
    go_wp2_with fail
    refine (known_any _).mono ?_
    rintro r w3 ⟨rfl, hG3⟩
    have g3 : G w2 w3 := G.trans (by (repeat' (first | (with_reducible exact G.refl _) | (with_reducible refine G.drewN ?_ _) | (with_reducible refine G.drew ?_) | (with_reducible refine G.alloc ?_ _)))) hG3
    go_wp2_with fail
    refine (rCheck_any a2 l n c2 128 _ HN.out (H2.out.later (g3.trans (by (repeat' (first | (with_reducible exact G.refl _) | (with_reducible assumption) | (with_reducible refine G.drewN ?_ _) | (with_reducible refine G.drew ?_) | (with_reducible refine G.alloc ?_ _) | (with_reducible refine G.setCell ?_ (by first | (with_reducible exact Nat.le_refl _) | (simp; done) | (simp; omega) | omega) _) | (with_reducible refine G.trans ?_ (by assumption)))))))).mono ?_
    rintro r w4 ⟨rfl, hG4⟩
    have g4 : G w2 w4 := g3.trans (G.trans (by (repeat' (first | (with_reducible exact G.refl _) | (with_reducible refine G.drewN ?_ _) | (with_reducible refine G.drew ?_) | (with_reducible refine G.alloc ?_ _)))) hG4)
    have gw4 : G w w4 := g1.trans (g2.trans g4)
    by_cases hk : ckT 128 l = 0
    rotate_left
    · have HE := Lib.hid (show ckT 128 l = E by rw [← hE.out]; exact (if_neg hk).symm)
      have HV := Lib.hid (show V = 0 by rw [← hV.out]; exact if_neg hk)
      rw [HE.out] at hk ⊢
      have e3 : (E == 0) = false := beq_false_of_ne hk
      have e4 : (E != 0) = true := by simp [bne, e3]
      rw [HV.out]
      clear hk
      go_wp2_with fail
      go_ret
      exact ⟨by first | rfl | simp, by (repeat' (first | (with_reducible exact G.refl _) | (with_reducible assumption) | (with_reducible refine G.drewN ?_ _) | (with_reducible refine G.drew ?_) | (with_reducible refine G.alloc ?_ _) | (with_reducible refine G.setCell ?_ (by first | (with_reducible exact Nat.le_refl _) | (simp; done) | (simp; omega) | omega) _) | (with_reducible refine G.trans ?_ (by assumption))))⟩
    have HCK := Lib.hid hk
    have HVE := Lib.hid (show V = (if 0 ≤ e ∧ e < 128 then lenV l e x else 0) ∧ E = (if 0 ≤ e ∧ e < 128 then lenE l e x else 2) from ⟨hV.out.symm.trans (if_pos hk), hE.out.symm.trans (if_pos hk)⟩)
    have HF := Lib.hid (ckT_fit hk)
    rw [hk]
    clear hk
    have OUT : (e < 0 ∨ 128 ≤ e ∨ x < 0 ∨ 7741440 < x) → V = 0 ∧ E = 2 := fun h => by
      rw [HVE.out.1, HVE.out.2]
      by_cases k : 0 ≤ e ∧ e < 128
      · rw [if_pos k, if_pos k]
        exact ⟨if_neg (by omega), if_neg (by omega)⟩
      · rw [if_neg k, if_neg k]; exact ⟨rfl, rfl⟩
    have HOUT := Lib.hid OUT
    clear OUT
    by_cases k1 : e < 0
    · have HH := Lib.hid (HOUT.out (by omega))
      rw [HH.out.1, HH.out.2]
      go_wp2_with fail
      go_ret
      exact ⟨by first | rfl | simp, by (repeat' (first | (with_reducible exact G.refl _) | (with_reducible assumption) | (with_reducible refine G.drewN ?_ _) | (with_reducible refine G.drew ?_) | (with_reducible refine G.alloc ?_ _) | (with_reducible refine G.setCell ?_ (by first | (with_reducible exact Nat.le_refl _) | (simp; done) | (simp; omega) | omega) _) | (with_reducible refine G.trans ?_ (by assumption))))⟩
    by_cases k2 : 128 ≤ e
    · have HH := Lib.hid (HOUT.out (by omega))
      rw [HH.out.1, HH.out.2]
      go_wp2_with fail
      go_ret
      exact ⟨by first | rfl | simp, by (repeat' (first | (with_reducible exact G.refl _) | (with_reducible assumption) | (with_reducible refine G.drewN ?_ _) | (with_reducible refine G.drew ?_) | (with_reducible refine G.alloc ?_ _) | (with_reducible refine G.setCell ?_ (by first | (with_reducible exact Nat.le_refl _) | (simp; done) | (simp; omega) | omega) _) | (with_reducible refine G.trans ?_ (by assumption))))⟩
    by_cases k3 : x < 0
    · have HH := Lib.hid (HOUT.out (by omega))
      rw [HH.out.1, HH.out.2]
      go_wp2_with fail
      go_ret
      exact ⟨by first | rfl | simp, by (repeat' (first | (with_reducible exact G.refl _) | (with_reducible assumption) | (with_reducible refine G.drewN ?_ _) | (with_reducible refine G.drew ?_) | (with_reducible refine G.alloc ?_ _) | (with_reducible refine G.setCell ?_ (by first | (with_reducible exact Nat.le_refl _) | (simp; done) | (simp; omega) | omega) _) | (with_reducible refine G.trans ?_ (by assumption))))⟩
    by_cases k4 : 7741440 < x
    · have HH := Lib.hid (HOUT.out (by omega))
      rw [HH.out.1, HH.out.2]
      go_wp2_with fail
      go_ret
      exact ⟨by first | rfl | simp, by (repeat' (first | (with_reducible exact G.refl _) | (with_reducible assumption) | (with_reducible refine G.drewN ?_ _) | (with_reducible refine G.drew ?_) | (with_reducible refine G.alloc ?_ _) | (with_reducible refine G.setCell ?_ (by first | (with_reducible exact Nat.le_refl _) | (simp; done) | (simp; omega) | omega) _) | (with_reducible refine G.trans ?_ (by assumption))))⟩
    have HI := Lib.hid (show (0 ≤ e ∧ e < 128) ∧ (0 ≤ x ∧ x ≤ 7741440) by omega)
    have HVL := Lib.hid (show V = (if x * (prT l e).1 % (prT l e).2 = 0 then x * (prT l e).1 / (prT l e).2 else 0) ∧ E = (if x * (prT l e).1 % (prT l e).2 = 0 then 0 else 16) by
      rw [HVE.out.1, HVE.out.2, if_pos HI.out.1, if_pos HI.out.1]
      exact ⟨if_pos HI.out.2, if_pos HI.out.2⟩)
    have HOWN := Lib.hid (own_ln (e := e) (x := x) HCK.out)
    rw [hV.out, hE.out] at HOWN
    obtain ⟨Z, hZ⟩ : ∃ z : Int, Hid (x * (prT l e).1 / (prT l e).2 = z) := ⟨_, rfl⟩
    obtain ⟨B, hB⟩ : ∃ z : Bool, Hid (decide (x * (prT l e).1 % (prT l e).2 = 0) = z) := ⟨_, rfl⟩
    have HB := Lib.hid (show (B = true → V = Z ∧ E = 0) ∧ (B = false → V = 0 ∧ E = 16) by
      rw [HVL.out.1, HVL.out.2, ← hZ.out, ← hB.out]
      constructor
      · intro h; rw [if_pos (of_decide_eq_true h), if_pos (of_decide_eq_true h)]; exact ⟨rfl, rfl⟩
      · intro h; rw [if_neg (of_decide_eq_false h), if_neg (of_decide_eq_false h)]; exact ⟨rfl, rfl⟩)
    go_wp2_with fail
    refine (rScale_any a2 l n c2 0 e x _ HN.out HK.out (Nat.zero_le _) (H2.out.later (g4.trans (by (repeat' (first | (with_reducible exact G.refl _) | (with_reducible assumption) | (with_reducible refine G.drewN ?_ _) | (with_reducible refine G.drew ?_) | (with_reducible refine G.alloc ?_ _) | (with_reducible refine G.setCell ?_ (by first | (with_reducible exact Nat.le_refl _) | (simp; done) | (simp; omega) | omega) _) | (with_reducible refine G.trans ?_ (by assumption))))))) (fit_zero HF.out) HI.out.2.1 HI.out.2.2).mono ?_
    rintro r w5 ⟨rfl, hG5⟩
    rw [List.drop_zero, hZ.out, hB.out]
    have g5 : G w2 w5 := g4.trans (G.trans (by (repeat' (first | (with_reducible exact G.refl _) | (with_reducible refine G.drewN ?_ _) | (with_reducible refine G.drew ?_) | (with_reducible refine G.alloc ?_ _)))) hG5)
    have gw5 : G w w5 := g1.trans (g2.trans g5)
    obtain ⟨i0, hi0, hz0, hz1, hz2⟩ := info_parts' tInfo
    go_wp2_with fail
    go_loopg [13, 14] n (fun q y z wr => ∃ (i : Nat) (v : Value), v = y ∧ z = .int .i64 i ∧ q = n - i ∧ i ≤ n ∧ Hid (Row tuE 52 4 w2.heap.size wr v ((l.take i).filter (fun t => decide (InT t e)))) ∧ G w2 wr)
    case atStart => exact ⟨0, _, rfl, rfl, by omega, by omega, Lib.hid (by simpa using Row.nil (enc := tuE) w5), by (repeat' (first | (with_reducible exact G.refl _) | (with_reducible assumption) | (with_reducible refine G.drewN ?_ _) | (with_reducible refine G.drew ?_) | (with_reducible refine G.alloc ?_ _) | (with_reducible refine G.setCell ?_ (by first | (with_reducible exact Nat.le_refl _) | (simp; done) | (simp; omega) | omega) _) | (with_reducible refine G.trans ?_ (by assumption))))⟩
    case round =>
      obtain ⟨i, v, rfl, rfl, hq, hi', hR, gr⟩ := hrel
      have gwr : G w wr := g1.trans (g2.trans gr)
      have HQ := Lib.hid hq
      clear hq
      by_cases hin : i < n
      · obtain ⟨⟨f, cc, aa, nn⟩, hp⟩ : ∃ z, l[i]? = some z := ⟨l[i]'(by have := HN.out; omega), List.getElem?_eq_getElem (by have := HN.out; omega)⟩
        rcases H1.out with hz | ⟨b0, of, rfl, fc⟩
        · rw [hz] at hp; simp at hp
        rcases H2.out with hz | ⟨b2, of2, rfl, fc2⟩
        · rw [hz] at hp; simp at hp
        obtain ⟨x0, x1, x2, x3⟩ := (fc i _ hp).later gwr
        obtain ⟨y0, y1, y2, y3⟩ := (fc2 i _ hp).later gr
        dsimp only at x0 x1 x2 x3 y0 y1 y2 y3
        have hone := HF.out.one _ (List.mem_of_getElem? hp)
        have HO := Lib.hid (show (-9223372036854775808 ≤ f + cc ∧ f + cc ≤ 9223372036854775807) by have := hone.1; have := hone.2.1; have := hone.2.2.1; dsimp only at *; omega)
        have HNX := Lib.hid (filt_next (P := fun t => decide (InT t e)) hp)
        have HLT := Lib.hid (show ((l.take i).filter (fun t => decide (InT t e))).length ≤ 20 from Nat.le_trans (List.length_filter_le _ _) (by rw [List.length_take]; have := HK.out; omega))
        have b1 : (0 : Int) ≤ (i : Int) := by omega
        have b2' : (i : Int) < (n : Int) := by omega
        have q1 := IntWalk.i64_in ((i : Int) + 1) (by have := HK.out; omega)
        clear fc fc2 hp hone
        by_cases hit : InT ⟨f, cc, aa, nn⟩ e
        · have HIT := Lib.hid hit
          have HX := Lib.hid (show (l.take (i + 1)).filter (fun t => decide (InT t e)) = (l.take i).filter (fun t => decide (InT t e)) ++ [⟨f, cc, aa, nn⟩] by rw [HNX.out, if_pos (decide_eq_true hit)])
          clear hit
          go_wp2_with fail
          refine (rIn_any _ _ _ _ _ _ HO.out.1 HO.out.2).mono ?_
          rintro r w6 ⟨rfl, hG6⟩
          rw [decide_eq_true HIT.out]
          have g6 : G wr w6 := G.trans (by (repeat' (first | (with_reducible exact G.refl _) | (with_reducible refine G.drewN ?_ _) | (with_reducible refine G.drew ?_) | (with_reducible refine G.alloc ?_ _)))) hG6
          replace x0 := g6.at x0
          replace x1 := g6.at x1
          replace x2 := g6.at x2
          replace x3 := g6.at x3
          clear y0 y1 y2 y3
          go_wp2_with (at_builtin; refine wpList_append_own _ rfl _ _ 22 rfl w2.heap.size 52 i0 (.agg #[.int .i64 0, .int .i64 0, .int .i64 0, .int .i64 0]) 4 32 Try.underlying22 hi0 hz0 hz1 hz2 rfl (by decide) v ((l.take i).filter (fun t => decide (InT t e))).length (((l.take i).filter (fun t => decide (InT t e))).flatMap tuE) rfl (hR.out.later (show G wr _ by (repeat' (first | (with_reducible exact G.refl _) | (with_reducible assumption) | (with_reducible refine G.drewN ?_ _) | (with_reducible refine G.drew ?_) | (with_reducible refine G.alloc ?_ _) | (with_reducible refine G.setCell ?_ (by first | (with_reducible exact Nat.le_refl _) | (simp; done) | (simp; omega) | omega) _) | (with_reducible refine G.trans ?_ (by assumption)))))) ⟨w6.heap.size, 0, none⟩ 1 1 [.int .i64 f, .int .i64 cc, .int .i64 aa, .int .i64 nn] rfl rfl (new_add _ _ [.int .i64 f, .int .i64 cc, .int .i64 aa, .int .i64 nn] _ (by simp [go_sem])) (by simp [Value.oneCell']) (by unfold maxLen; have := HLT.out; omega) (by have := HLT.out; omega) (by have := gr.size; have := g6.size; simp [go_sem]; omega) ?_; intro v' w7 hown' hgrow _)
          have RN := Lib.hid (Row.more (enc := tuE) (M := (l.take i).filter (fun t => decide (InT t e))) (x := ⟨f, cc, aa, nn⟩) hown')
          have gN : G w2 w7 := Below.grown (B := w2.heap.size) (show G w2 _ from gr.trans (by (repeat' (first | (with_reducible exact G.refl _) | (with_reducible assumption) | (with_reducible refine G.drewN ?_ _) | (with_reducible refine G.drew ?_) | (with_reducible refine G.alloc ?_ _) | (with_reducible refine G.setCell ?_ (by first | (with_reducible exact Nat.le_refl _) | (simp; done) | (simp; omega) | omega) _) | (with_reducible refine G.trans ?_ (by assumption)))))) hgrow (by have := gr.size; have := g6.size; simp [go_sem]; omega) (fun k hk => hR.out.own k hk)
          go_roundg (n - (i + 1))
          case measure => have := HQ.out; omega
          case rel => exact ⟨i + 1, v', rfl, by first | rfl | go_num, rfl, by omega, Lib.hid (by rw [HX.out]; exact RN.out), gN⟩
        · have HIT := Lib.hid hit
          have HX := Lib.hid (show (l.take (i + 1)).filter (fun t => decide (InT t e)) = (l.take i).filter (fun t => decide (InT t e)) by rw [HNX.out, if_neg (by simpa using hit), List.append_nil])
          clear hit
          go_wp2_with fail
          refine (rIn_any _ _ _ _ _ _ HO.out.1 HO.out.2).mono ?_
          rintro r w6 ⟨rfl, hG6⟩
          rw [decide_eq_false HIT.out]
          have g6 : G wr w6 := G.trans (by (repeat' (first | (with_reducible exact G.refl _) | (with_reducible refine G.drewN ?_ _) | (with_reducible refine G.drew ?_) | (with_reducible refine G.alloc ?_ _)))) hG6
          clear x0 x1 x2 x3 y0 y1 y2 y3
          go_wp2_with fail
          go_roundg (n - (i + 1))
          case measure => have := HQ.out; omega
          case rel => exact ⟨i + 1, v, rfl, by first | rfl | go_num, rfl, by omega, Lib.hid (by rw [HX.out]; exact hR.out.later g6), gr.trans g6⟩
      · have hii : i = n := by omega
        have hall : l.take i = l := List.take_of_length_le (by have := HN.out; omega)
        rw [hall] at hR
        subst hii
        have HCB := Lib.hid (cb_filter (fun t => decide (InT t e)) HC.out)
        have HLF := Lib.hid (show (l.filter (fun t => decide (InT t e))).length ≤ 20 from Nat.le_trans (List.length_filter_le _ _) (by have := HN.out; have := HK.out; omega))
        obtain ⟨L2, hL2⟩ : ∃ z, Hid (l.filter (fun t => decide (InT t e)) = z) := ⟨_, rfl⟩
        rw [hL2.out] at hR HCB HLF HOWN
        obtain ⟨a3, c3, rfl, hT3⟩ := hR.out.tus
        obtain ⟨n3, hn3⟩ : ∃ z : Nat, Hid (L2.length = z) := ⟨_, rfl⟩
        rw [hn3.out] at hR HLF ⊢
        have H3 := Lib.hid hT3
        clear hT3 hR hall
        cases hBB : B
        · have HBB := Lib.hid (HB.out.2 hBB)
          go_wp2_with fail
          refine (tLength_any a3 L2 n3 c3 e x _ hn3.out HLF.out (H3.out.later (by (repeat' (first | (with_reducible exact G.refl _) | (with_reducible assumption) | (with_reducible refine G.drewN ?_ _) | (with_reducible refine G.drew ?_) | (with_reducible refine G.alloc ?_ _) | (with_reducible refine G.setCell ?_ (by first | (with_reducible exact Nat.le_refl _) | (simp; done) | (simp; omega) | omega) _) | (with_reducible refine G.trans ?_ (by assumption)))))) HCB.out).mono ?_
          rintro r w7 ⟨rfl, hG7⟩
          rw [HOWN.out.1, HOWN.out.2, HBB.out.1, HBB.out.2]
          go_wp2_with fail
          go_ret
          exact ⟨by first | rfl | simp, gwr.trans (by (repeat' (first | (with_reducible exact G.refl _) | (with_reducible assumption) | (with_reducible refine G.drewN ?_ _) | (with_reducible refine G.drew ?_) | (with_reducible refine G.alloc ?_ _) | (with_reducible refine G.setCell ?_ (by first | (with_reducible exact Nat.le_refl _) | (simp; done) | (simp; omega) | omega) _) | (with_reducible refine G.trans ?_ (by assumption)))))⟩
        · have HBB := Lib.hid (HB.out.1 hBB)
          go_wp2_with fail
          refine (tLength_any a3 L2 n3 c3 e x _ hn3.out HLF.out (H3.out.later (by (repeat' (first | (with_reducible exact G.refl _) | (with_reducible assumption) | (with_reducible refine G.drewN ?_ _) | (with_reducible refine G.drew ?_) | (with_reducible refine G.alloc ?_ _) | (with_reducible refine G.setCell ?_ (by first | (with_reducible exact Nat.le_refl _) | (simp; done) | (simp; omega) | omega) _) | (with_reducible refine G.trans ?_ (by assumption)))))) HCB.out).mono ?_
          rintro r w7 ⟨rfl, hG7⟩
          rw [HOWN.out.1, HOWN.out.2, HBB.out.1, HBB.out.2]
          go_wp2_with fail
          go_ret
          exact ⟨by first | rfl | simp, gwr.trans (by (repeat' (first | (with_reducible exact G.refl _) | (with_reducible assumption) | (with_reducible refine G.drewN ?_ _) | (with_reducible refine G.drew ?_) | (with_reducible refine G.alloc ?_ _) | (with_reducible refine G.setCell ?_ (by first | (with_reducible exact Nat.le_refl _) | (simp; done) | (simp; omega) | omega) _) | (with_reducible refine G.trans ?_ (by assumption)))))⟩
  · have H1 := Lib.hid (h1.take 20)
    have HC := Lib.hid ((cb_of hwf).take 20)
    have HN := Lib.hid (show (l0.take 20).length = 20 by rw [List.length_take]; omega)
    have HK := Lib.hid (show 20 ≤ 20 from Nat.le_refl _)
    have m3 : (20 : Int) ≤ (c : Int) := by omega
    have m4 : 20 ≤ c := by omega
    generalize l0.take 20 = l at *
    clear h1 hwf hc
    obtain ⟨V, hV⟩ : ∃ z : Int, Hid (lnV l e x = z) := ⟨_, rfl⟩
    obtain ⟨E, hE⟩ : ∃ z : Int, Hid (lnE l e x = z) := ⟨_, rfl⟩
    go_enter Try.func7, Try.ntmps7
    go_wp2_with fail
    refine (tLength_any a l 20 c e x _ HN.out HK.out (H1.out.later (by (repeat' (first | (with_reducible exact G.refl _) | (with_reducible assumption) | (with_reducible refine G.drewN ?_ _) | (with_reducible refine G.drew ?_) | (with_reducible refine G.alloc ?_ _) | (with_reducible refine G.setCell ?_ (by first | (with_reducible exact Nat.le_refl _) | (simp; done) | (simp; omega) | omega) _) | (with_reducible refine G.trans ?_ (by assumption)))))) HC.out).mono ?_
    rintro r w1 ⟨rfl, hG1⟩
    have g1 : G w w1 := G.trans (by (repeat' (first | (with_reducible exact G.refl _) | (with_reducible refine G.drewN ?_ _) | (with_reducible refine G.drew ?_) | (with_reducible refine G.alloc ?_ _)))) hG1
    rw [hV.out, hE.out]
    go_wp2_with fail
    refine (to_any a l 20 c _ HN.out HK.out (H1.out.later (g1.trans (by (repeat' (first | (with_reducible exact G.refl _) | (with_reducible assumption) | (with_reducible refine G.drewN ?_ _) | (with_reducible refine G.drew ?_) | (with_reducible refine G.alloc ?_ _) | (with_reducible refine G.setCell ?_ (by first | (with_reducible exact Nat.le_refl _) | (simp; done) | (simp; omega) | omega) _) | (with_reducible refine G.trans ?_ (by assumption)))))))).mono ?_
    rintro r w2 ⟨v, rfl, hR, hG2⟩
    have g2 : G w1 w2 := G.trans (by (repeat' (first | (with_reducible exact G.refl _) | (with_reducible refine G.drewN ?_ _) | (with_reducible refine G.drew ?_) | (with_reducible refine G.alloc ?_ _)))) hG2
    obtain ⟨a2, c2, rfl, hT2⟩ := hR.tus
    rw [HN.out]
    have H2 := Lib.hid hT2
    clear hR hT2
    go_wp2_with fail
    refine (known_any _).mono ?_
    rintro r w3 ⟨rfl, hG3⟩
    have g3 : G w2 w3 := G.trans (by (repeat' (first | (with_reducible exact G.refl _) | (with_reducible refine G.drewN ?_ _) | (with_reducible refine G.drew ?_) | (with_reducible refine G.alloc ?_ _)))) hG3
    go_wp2_with fail
    refine (rCheck_any a2 l 20 c2 128 _ HN.out (H2.out.later (g3.trans (by (repeat' (first | (with_reducible exact G.refl _) | (with_reducible assumption) | (with_reducible refine G.drewN ?_ _) | (with_reducible refine G.drew ?_) | (with_reducible refine G.alloc ?_ _) | (with_reducible refine G.setCell ?_ (by first | (with_reducible exact Nat.le_refl _) | (simp; done) | (simp; omega) | omega) _) | (with_reducible refine G.trans ?_ (by assumption)))))))).mono ?_
    rintro r w4 ⟨rfl, hG4⟩
    have g4 : G w2 w4 := g3.trans (G.trans (by (repeat' (first | (with_reducible exact G.refl _) | (with_reducible refine G.drewN ?_ _) | (with_reducible refine G.drew ?_) | (with_reducible refine G.alloc ?_ _)))) hG4)
    have gw4 : G w w4 := g1.trans (g2.trans g4)
    by_cases hk : ckT 128 l = 0
    rotate_left
    · have HE := Lib.hid (show ckT 128 l = E by rw [← hE.out]; exact (if_neg hk).symm)
      have HV := Lib.hid (show V = 0 by rw [← hV.out]; exact if_neg hk)
      rw [HE.out] at hk ⊢
      have e3 : (E == 0) = false := beq_false_of_ne hk
      have e4 : (E != 0) = true := by simp [bne, e3]
      rw [HV.out]
      clear hk
      go_wp2_with fail
      go_ret
      exact ⟨by first | rfl | simp, by (repeat' (first | (with_reducible exact G.refl _) | (with_reducible assumption) | (with_reducible refine G.drewN ?_ _) | (with_reducible refine G.drew ?_) | (with_reducible refine G.alloc ?_ _) | (with_reducible refine G.setCell ?_ (by first | (with_reducible exact Nat.le_refl _) | (simp; done) | (simp; omega) | omega) _) | (with_reducible refine G.trans ?_ (by assumption))))⟩
    have HCK := Lib.hid hk
    have HVE := Lib.hid (show V = (if 0 ≤ e ∧ e < 128 then lenV l e x else 0) ∧ E = (if 0 ≤ e ∧ e < 128 then lenE l e x else 2) from ⟨hV.out.symm.trans (if_pos hk), hE.out.symm.trans (if_pos hk)⟩)
    have HF := Lib.hid (ckT_fit hk)
    rw [hk]
    clear hk
    have OUT : (e < 0 ∨ 128 ≤ e ∨ x < 0 ∨ 7741440 < x) → V = 0 ∧ E = 2 := fun h => by
      rw [HVE.out.1, HVE.out.2]
      by_cases k : 0 ≤ e ∧ e < 128
      · rw [if_pos k, if_pos k]
        exact ⟨if_neg (by omega), if_neg (by omega)⟩
      · rw [if_neg k, if_neg k]; exact ⟨rfl, rfl⟩
    have HOUT := Lib.hid OUT
    clear OUT
    by_cases k1 : e < 0
    · have HH := Lib.hid (HOUT.out (by omega))
      rw [HH.out.1, HH.out.2]
      go_wp2_with fail
      go_ret
      exact ⟨by first | rfl | simp, by (repeat' (first | (with_reducible exact G.refl _) | (with_reducible assumption) | (with_reducible refine G.drewN ?_ _) | (with_reducible refine G.drew ?_) | (with_reducible refine G.alloc ?_ _) | (with_reducible refine G.setCell ?_ (by first | (with_reducible exact Nat.le_refl _) | (simp; done) | (simp; omega) | omega) _) | (with_reducible refine G.trans ?_ (by assumption))))⟩
    by_cases k2 : 128 ≤ e
    · have HH := Lib.hid (HOUT.out (by omega))
      rw [HH.out.1, HH.out.2]
      go_wp2_with fail
      go_ret
      exact ⟨by first | rfl | simp, by (repeat' (first | (with_reducible exact G.refl _) | (with_reducible assumption) | (with_reducible refine G.drewN ?_ _) | (with_reducible refine G.drew ?_) | (with_reducible refine G.alloc ?_ _) | (with_reducible refine G.setCell ?_ (by first | (with_reducible exact Nat.le_refl _) | (simp; done) | (simp; omega) | omega) _) | (with_reducible refine G.trans ?_ (by assumption))))⟩
    by_cases k3 : x < 0
    · have HH := Lib.hid (HOUT.out (by omega))
      rw [HH.out.1, HH.out.2]
      go_wp2_with fail
      go_ret
      exact ⟨by first | rfl | simp, by (repeat' (first | (with_reducible exact G.refl _) | (with_reducible assumption) | (with_reducible refine G.drewN ?_ _) | (with_reducible refine G.drew ?_) | (with_reducible refine G.alloc ?_ _) | (with_reducible refine G.setCell ?_ (by first | (with_reducible exact Nat.le_refl _) | (simp; done) | (simp; omega) | omega) _) | (with_reducible refine G.trans ?_ (by assumption))))⟩
    by_cases k4 : 7741440 < x
    · have HH := Lib.hid (HOUT.out (by omega))
      rw [HH.out.1, HH.out.2]
      go_wp2_with fail
      go_ret
      exact ⟨by first | rfl | simp, by (repeat' (first | (with_reducible exact G.refl _) | (with_reducible assumption) | (with_reducible refine G.drewN ?_ _) | (with_reducible refine G.drew ?_) | (with_reducible refine G.alloc ?_ _) | (with_reducible refine G.setCell ?_ (by first | (with_reducible exact Nat.le_refl _) | (simp; done) | (simp; omega) | omega) _) | (with_reducible refine G.trans ?_ (by assumption))))⟩
    have HI := Lib.hid (show (0 ≤ e ∧ e < 128) ∧ (0 ≤ x ∧ x ≤ 7741440) by omega)
    have HVL := Lib.hid (show V = (if x * (prT l e).1 % (prT l e).2 = 0 then x * (prT l e).1 / (prT l e).2 else 0) ∧ E = (if x * (prT l e).1 % (prT l e).2 = 0 then 0 else 16) by
      rw [HVE.out.1, HVE.out.2, if_pos HI.out.1, if_pos HI.out.1]
      exact ⟨if_pos HI.out.2, if_pos HI.out.2⟩)
    have HOWN := Lib.hid (own_ln (e := e) (x := x) HCK.out)
    rw [hV.out, hE.out] at HOWN
    obtain ⟨Z, hZ⟩ : ∃ z : Int, Hid (x * (prT l e).1 / (prT l e).2 = z) := ⟨_, rfl⟩
    obtain ⟨B, hB⟩ : ∃ z : Bool, Hid (decide (x * (prT l e).1 % (prT l e).2 = 0) = z) := ⟨_, rfl⟩
    have HB := Lib.hid (show (B = true → V = Z ∧ E = 0) ∧ (B = false → V = 0 ∧ E = 16) by
      rw [HVL.out.1, HVL.out.2, ← hZ.out, ← hB.out]
      constructor
      · intro h; rw [if_pos (of_decide_eq_true h), if_pos (of_decide_eq_true h)]; exact ⟨rfl, rfl⟩
      · intro h; rw [if_neg (of_decide_eq_false h), if_neg (of_decide_eq_false h)]; exact ⟨rfl, rfl⟩)
    go_wp2_with fail
    refine (rScale_any a2 l 20 c2 0 e x _ HN.out HK.out (Nat.zero_le _) (H2.out.later (g4.trans (by (repeat' (first | (with_reducible exact G.refl _) | (with_reducible assumption) | (with_reducible refine G.drewN ?_ _) | (with_reducible refine G.drew ?_) | (with_reducible refine G.alloc ?_ _) | (with_reducible refine G.setCell ?_ (by first | (with_reducible exact Nat.le_refl _) | (simp; done) | (simp; omega) | omega) _) | (with_reducible refine G.trans ?_ (by assumption))))))) (fit_zero HF.out) HI.out.2.1 HI.out.2.2).mono ?_
    rintro r w5 ⟨rfl, hG5⟩
    rw [List.drop_zero, hZ.out, hB.out]
    have g5 : G w2 w5 := g4.trans (G.trans (by (repeat' (first | (with_reducible exact G.refl _) | (with_reducible refine G.drewN ?_ _) | (with_reducible refine G.drew ?_) | (with_reducible refine G.alloc ?_ _)))) hG5)
    have gw5 : G w w5 := g1.trans (g2.trans g5)
    obtain ⟨i0, hi0, hz0, hz1, hz2⟩ := info_parts' tInfo
    go_wp2_with fail
    go_loopg [13, 14] 20 (fun q y z wr => ∃ (i : Nat) (v : Value), v = y ∧ z = .int .i64 i ∧ q = 20 - i ∧ i ≤ 20 ∧ Hid (Row tuE 52 4 w2.heap.size wr v ((l.take i).filter (fun t => decide (InT t e)))) ∧ G w2 wr)
    case atStart => exact ⟨0, _, rfl, rfl, by omega, by omega, Lib.hid (by simpa using Row.nil (enc := tuE) w5), by (repeat' (first | (with_reducible exact G.refl _) | (with_reducible assumption) | (with_reducible refine G.drewN ?_ _) | (with_reducible refine G.drew ?_) | (with_reducible refine G.alloc ?_ _) | (with_reducible refine G.setCell ?_ (by first | (with_reducible exact Nat.le_refl _) | (simp; done) | (simp; omega) | omega) _) | (with_reducible refine G.trans ?_ (by assumption))))⟩
    case round =>
      obtain ⟨i, v, rfl, rfl, hq, hi', hR, gr⟩ := hrel
      have gwr : G w wr := g1.trans (g2.trans gr)
      have HQ := Lib.hid hq
      clear hq
      by_cases hin : i < 20
      · obtain ⟨⟨f, cc, aa, nn⟩, hp⟩ : ∃ z, l[i]? = some z := ⟨l[i]'(by have := HN.out; omega), List.getElem?_eq_getElem (by have := HN.out; omega)⟩
        rcases H1.out with hz | ⟨b0, of, rfl, fc⟩
        · rw [hz] at hp; simp at hp
        rcases H2.out with hz | ⟨b2, of2, rfl, fc2⟩
        · rw [hz] at hp; simp at hp
        obtain ⟨x0, x1, x2, x3⟩ := (fc i _ hp).later gwr
        obtain ⟨y0, y1, y2, y3⟩ := (fc2 i _ hp).later gr
        dsimp only at x0 x1 x2 x3 y0 y1 y2 y3
        have hone := HF.out.one _ (List.mem_of_getElem? hp)
        have HO := Lib.hid (show (-9223372036854775808 ≤ f + cc ∧ f + cc ≤ 9223372036854775807) by have := hone.1; have := hone.2.1; have := hone.2.2.1; dsimp only at *; omega)
        have HNX := Lib.hid (filt_next (P := fun t => decide (InT t e)) hp)
        have HLT := Lib.hid (show ((l.take i).filter (fun t => decide (InT t e))).length ≤ 20 from Nat.le_trans (List.length_filter_le _ _) (by rw [List.length_take]; have := HK.out; omega))
        have b1 : (0 : Int) ≤ (i : Int) := by omega
        have b2' : (i : Int) < (20 : Int) := by omega
        have q1 := IntWalk.i64_in ((i : Int) + 1) (by have := HK.out; omega)
        clear fc fc2 hp hone
        by_cases hit : InT ⟨f, cc, aa, nn⟩ e
        · have HIT := Lib.hid hit
          have HX := Lib.hid (show (l.take (i + 1)).filter (fun t => decide (InT t e)) = (l.take i).filter (fun t => decide (InT t e)) ++ [⟨f, cc, aa, nn⟩] by rw [HNX.out, if_pos (decide_eq_true hit)])
          clear hit
          go_wp2_with fail
          refine (rIn_any _ _ _ _ _ _ HO.out.1 HO.out.2).mono ?_
          rintro r w6 ⟨rfl, hG6⟩
          rw [decide_eq_true HIT.out]
          have g6 : G wr w6 := G.trans (by (repeat' (first | (with_reducible exact G.refl _) | (with_reducible refine G.drewN ?_ _) | (with_reducible refine G.drew ?_) | (with_reducible refine G.alloc ?_ _)))) hG6
          replace x0 := g6.at x0
          replace x1 := g6.at x1
          replace x2 := g6.at x2
          replace x3 := g6.at x3
          clear y0 y1 y2 y3
          go_wp2_with (at_builtin; refine wpList_append_own _ rfl _ _ 22 rfl w2.heap.size 52 i0 (.agg #[.int .i64 0, .int .i64 0, .int .i64 0, .int .i64 0]) 4 32 Try.underlying22 hi0 hz0 hz1 hz2 rfl (by decide) v ((l.take i).filter (fun t => decide (InT t e))).length (((l.take i).filter (fun t => decide (InT t e))).flatMap tuE) rfl (hR.out.later (show G wr _ by (repeat' (first | (with_reducible exact G.refl _) | (with_reducible assumption) | (with_reducible refine G.drewN ?_ _) | (with_reducible refine G.drew ?_) | (with_reducible refine G.alloc ?_ _) | (with_reducible refine G.setCell ?_ (by first | (with_reducible exact Nat.le_refl _) | (simp; done) | (simp; omega) | omega) _) | (with_reducible refine G.trans ?_ (by assumption)))))) ⟨w6.heap.size, 0, none⟩ 1 1 [.int .i64 f, .int .i64 cc, .int .i64 aa, .int .i64 nn] rfl rfl (new_add _ _ [.int .i64 f, .int .i64 cc, .int .i64 aa, .int .i64 nn] _ (by simp [go_sem])) (by simp [Value.oneCell']) (by unfold maxLen; have := HLT.out; omega) (by have := HLT.out; omega) (by have := gr.size; have := g6.size; simp [go_sem]; omega) ?_; intro v' w7 hown' hgrow _)
          have RN := Lib.hid (Row.more (enc := tuE) (M := (l.take i).filter (fun t => decide (InT t e))) (x := ⟨f, cc, aa, nn⟩) hown')
          have gN : G w2 w7 := Below.grown (B := w2.heap.size) (show G w2 _ from gr.trans (by (repeat' (first | (with_reducible exact G.refl _) | (with_reducible assumption) | (with_reducible refine G.drewN ?_ _) | (with_reducible refine G.drew ?_) | (with_reducible refine G.alloc ?_ _) | (with_reducible refine G.setCell ?_ (by first | (with_reducible exact Nat.le_refl _) | (simp; done) | (simp; omega) | omega) _) | (with_reducible refine G.trans ?_ (by assumption)))))) hgrow (by have := gr.size; have := g6.size; simp [go_sem]; omega) (fun k hk => hR.out.own k hk)
          go_roundg (20 - (i + 1))
          case measure => have := HQ.out; omega
          case rel => exact ⟨i + 1, v', rfl, by first | rfl | go_num, rfl, by omega, Lib.hid (by rw [HX.out]; exact RN.out), gN⟩
        · have HIT := Lib.hid hit
          have HX := Lib.hid (show (l.take (i + 1)).filter (fun t => decide (InT t e)) = (l.take i).filter (fun t => decide (InT t e)) by rw [HNX.out, if_neg (by simpa using hit), List.append_nil])
          clear hit
          go_wp2_with fail
          refine (rIn_any _ _ _ _ _ _ HO.out.1 HO.out.2).mono ?_
          rintro r w6 ⟨rfl, hG6⟩
          rw [decide_eq_false HIT.out]
          have g6 : G wr w6 := G.trans (by (repeat' (first | (with_reducible exact G.refl _) | (with_reducible refine G.drewN ?_ _) | (with_reducible refine G.drew ?_) | (with_reducible refine G.alloc ?_ _)))) hG6
          clear x0 x1 x2 x3 y0 y1 y2 y3
          go_wp2_with fail
          go_roundg (20 - (i + 1))
          case measure => have := HQ.out; omega
          case rel => exact ⟨i + 1, v, rfl, by first | rfl | go_num, rfl, by omega, Lib.hid (by rw [HX.out]; exact hR.out.later g6), gr.trans g6⟩
      · have hii : i = 20 := by omega
        have hall : l.take i = l := List.take_of_length_le (by have := HN.out; omega)
        rw [hall] at hR
        subst hii
        have HCB := Lib.hid (cb_filter (fun t => decide (InT t e)) HC.out)
        have HLF := Lib.hid (show (l.filter (fun t => decide (InT t e))).length ≤ 20 from Nat.le_trans (List.length_filter_le _ _) (by have := HN.out; have := HK.out; omega))
        obtain ⟨L2, hL2⟩ : ∃ z, Hid (l.filter (fun t => decide (InT t e)) = z) := ⟨_, rfl⟩
        rw [hL2.out] at hR HCB HLF HOWN
        obtain ⟨a3, c3, rfl, hT3⟩ := hR.out.tus
        obtain ⟨n3, hn3⟩ : ∃ z : Nat, Hid (L2.length = z) := ⟨_, rfl⟩
        rw [hn3.out] at hR HLF ⊢
        have H3 := Lib.hid hT3
        clear hT3 hR hall
        cases hBB : B
        · have HBB := Lib.hid (HB.out.2 hBB)
          go_wp2_with fail
          refine (tLength_any a3 L2 n3 c3 e x _ hn3.out HLF.out (H3.out.later (by (repeat' (first | (with_reducible exact G.refl _) | (with_reducible assumption) | (with_reducible refine G.drewN ?_ _) | (with_reducible refine G.drew ?_) | (with_reducible refine G.alloc ?_ _) | (with_reducible refine G.setCell ?_ (by first | (with_reducible exact Nat.le_refl _) | (simp; done) | (simp; omega) | omega) _) | (with_reducible refine G.trans ?_ (by assumption)))))) HCB.out).mono ?_
          rintro r w7 ⟨rfl, hG7⟩
          rw [HOWN.out.1, HOWN.out.2, HBB.out.1, HBB.out.2]
          go_wp2_with fail
          go_ret
          exact ⟨by first | rfl | simp, gwr.trans (by (repeat' (first | (with_reducible exact G.refl _) | (with_reducible assumption) | (with_reducible refine G.drewN ?_ _) | (with_reducible refine G.drew ?_) | (with_reducible refine G.alloc ?_ _) | (with_reducible refine G.setCell ?_ (by first | (with_reducible exact Nat.le_refl _) | (simp; done) | (simp; omega) | omega) _) | (with_reducible refine G.trans ?_ (by assumption)))))⟩
        · have HBB := Lib.hid (HB.out.1 hBB)
          go_wp2_with fail
          refine (tLength_any a3 L2 n3 c3 e x _ hn3.out HLF.out (H3.out.later (by (repeat' (first | (with_reducible exact G.refl _) | (with_reducible assumption) | (with_reducible refine G.drewN ?_ _) | (with_reducible refine G.drew ?_) | (with_reducible refine G.alloc ?_ _) | (with_reducible refine G.setCell ?_ (by first | (with_reducible exact Nat.le_refl _) | (simp; done) | (simp; omega) | omega) _) | (with_reducible refine G.trans ?_ (by assumption)))))) HCB.out).mono ?_
          rintro r w7 ⟨rfl, hG7⟩
          rw [HOWN.out.1, HOWN.out.2, HBB.out.1, HBB.out.2]
          go_wp2_with fail
          go_ret
          exact ⟨by first | rfl | simp, gwr.trans (by (repeat' (first | (with_reducible exact G.refl _) | (with_reducible assumption) | (with_reducible refine G.drewN ?_ _) | (with_reducible refine G.drew ?_) | (with_reducible refine G.alloc ?_ _) | (with_reducible refine G.setCell ?_ (by first | (with_reducible exact Nat.le_refl _) | (simp; done) | (simp; omega) | omega) _) | (with_reducible refine G.trans ?_ (by assumption)))))⟩

/-! ### the row and the card -/
open Go.ChangeShapes Go.WideShapes Go.ChangeAt Go.RowKit
set_option maxRecDepth 100000 in
theorem tupletSingle_lifted (os : Os) (started : os.Started) (H : Type) (enc : TypeId × Value → H) :
    ReturnsInHanded {} Try.checked os 7 .any (Rows.tupletSingleSpec.pre6 enc Try.prog Try.f7 Rows.tupletSingleRow.domain false)
      (Rows.tupletSingleSpec.post enc Try.prog Try.f7 false true false false) := by
  refine returnsInHanded_of_change (C := Try.checked) own started (by kernel_rfl) Try.func7
    (ChangeSpec.witness6 (enc := enc) (C := Try.checked) false ⟨#[], #[.slice none 0 0, .int .i64 0, .int .i64 0], []⟩ 8 (by kernel_rfl) (by kernel_rfl) (by kernel_rfl) (by kernel_rfl)) ?_
  intro W base args ds gs before hval0 hW _ _
  have hval : ∀ (j : Nat) t v, Try.f7.params[j]? = some t → args[j]? = some v → Value.okWide Try.prog W .any base t v := hval0
  have hW' := hW
  obtain ⟨p, q, hA0, hV, rfl, hfz, hnd⟩ := hW
  have hA : DataW.TrodAll enc Try.prog W 0 (fun _ => true) true Try.f7.params.toList args.toList ds p := hA0
  rw [Try.params7] at hA hval
  obtain ⟨v0, vs0, d0, ds0, p0, q0, hargs, rfl, rfl, h0, r0⟩ := trodAll_cons hA
  obtain ⟨v1, vs1, d1, ds1, p1, q1, rfl, rfl, rfl, h1, r1⟩ := trodAll_cons r0
  obtain ⟨v2, vs2, d2, ds2, p2, q2, rfl, rfl, rfl, h2, r2⟩ := trodAll_cons r1
  obtain ⟨rfl, rfl, rfl⟩ := trodAll_nil r2
  obtain rfl : args = #[v0, v1, v2] := by cases args; simp_all
  obtain ⟨rfl, rfl⟩ := trodVars_none hV
  have keep0 := h0
  obtain ⟨a0, cap0, l0, rfl, lc0, mc0, la0, wf0, lz0⟩ := open_tusArg (hval 0 22 v0 rfl rfl) h0
  obtain ⟨a1, rfl, rfl, rfl, w1⟩ := open_int Try.underlying3 (hval 1 3 v1 rfl rfl) h1
  obtain ⟨bl1, bh1⟩ := bounds_i64 w1
  obtain ⟨a2, rfl, rfl, rfl, w2⟩ := open_int Try.underlying3 (hval 2 3 v2 rfl rfl) h2
  obtain ⟨bl2, bh2⟩ := bounds_i64 w2
  clear hA0 hval0
  simp only [List.append_nil] at hW'
  have hlt0 : ∀ x ∈ p0, x.block < W.heap.size := fun x hx => by have := hW'.lt x (by simp [hx]); simpa using this
  refine (single_walk a0 l0 cap0 a1 a2 W lc0 mc0 la0 lz0 wf0 bl1 bh1 bl2 bh2  ).mono fun e W' ⟨he, hg⟩ => ?_
  subst he
  exact ⟨_, rfl, _, _, _, [], (p0 ++ ([] ++ ([] ++ []))), [], hW', (trodAll_cons_mk (shut_bool Try.underlying4 _) trodAll_mk0), (trodAll_cons_mk (Below.trod (by kernel_rfl) (by kernel_rfl) (of_decide_eq_true (by kernel_rfl)) keep0 hg hlt0) (trodAll_cons_mk (shut_int Try.underlying3 w1) (trodAll_cons_mk (shut_int Try.underlying3 w2) trodAll_mk0))), rfl, Below.frame hg _, fun h => by cases h⟩

theorem tupletSingle_holds : Rows.TupletSingleSaid :=
  OpenClaim.holds_of_wide 7 Try.f7 rfl rfl rfl rfl rfl rfl rfl ⟨rfl, rfl, rfl, rfl, rfl⟩ rfl rfl rfl rfl rfl (by kernel_rfl) Try.func7 (by kernel_rfl)
    (of_decide_eq_true (by kernel_rfl)) (by unfold Func.isWrapper; first | (rw [if_pos (by decide +kernel)]; kernel_rfl) | (rw [if_neg (by decide +kernel)]; exact ⟨rfl, rfl⟩))
    (fun os started H enc _ => tupletSingle_lifted os started H enc)

#print axioms tupletSingle_holds
end Go.Proofs.Ytabaiklagobimaa
