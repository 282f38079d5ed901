/- TupletScales: if all written lengths are multiplied by a number (up to 16), so are the lengths (up to 20 tuplets and 130 events); the arguments read as before; no further condition. -/
import Derived.Test.YtabaiklagobimaaRows
import Derived.Test.YtabaiklagobimaaT10
import Derived.Test.YtabaiklagobimaaLaid
namespace Go.Proofs.Ytabaiklagobimaa
open Go.RowKit Go.ChangeShapes Go.WideShapes
attribute [local go_sem] World.cell?_alloc_some

set_option maxRecDepth 100000 in
set_option maxHeartbeats 12800000 in
theorem scales_walk (a : Option Addr) (l0 : List Tu) (c : Nat) (b : Option Addr) (r0 : List Int) (d : Nat) (y : Int) (w : World) (hc : l0.length ≤ c) (_ : c ≤ maxLen) (h1 : TusAt w a l0) (_ : a = none → c = 0) (hwf : ∀ n ∈ l0, (Lit.int .i64 n.c).wf = true) (hd : r0.length ≤ d) (_ : d ≤ maxLen) (h2 : IntsAt w b r0) (_ : b = none → d = 0) (hy0 : 0 ≤ y) (_ : y ≤ 255) :
    Calls Try.prog 8 #[.slice a l0.length c, .slice b r0.length d, .int .u8 y] w fun x w' => x = .returned (.bool true) ∧ G w w' := by
  by_cases k20 : (l0.length : Int) ≤ 20
  · by_cases k130 : (r0.length : Int) ≤ 130
    · have H1 := Lib.hid h1
      have HC := Lib.hid (cb_of hwf)
      have HN := Lib.hid (show l0.length = l0.length from rfl)
      have HK := Lib.hid (show l0.length ≤ 20 by omega)
      have m3 : (l0.length : Int) ≤ (c : Int) := by omega
      have m5 : l0.length ≤ c := by omega
      generalize l0 = l at *
      obtain ⟨n, hn⟩ : ∃ z : Nat, Hid (l.length = z) := ⟨_, rfl⟩
      rw [hn.out] at HK k20 m3 m5 ⊢
      clear HN h1 hwf hc
      have HN := hn
      clear hn
      have H2 := Lib.hid h2
      have HM2 := Lib.hid (show r0.length ≤ 1000 by omega)
      have u3 : (r0.length : Int) ≤ (d : Int) := by omega
      have u5 : r0.length ≤ d := by omega
      generalize r0 = r at *
      obtain ⟨m, hm⟩ : ∃ z : Nat, Hid (r.length = z) := ⟨_, rfl⟩
      rw [hm.out] at HM2 k130 u3 u5 ⊢
      clear h2 hd
      have HM := hm
      clear hm
      obtain ⟨J, hJ⟩ : ∃ z : Int, Hid (y % 16 = z) := ⟨_, rfl⟩
      have J0 : 0 ≤ J := by rw [← hJ.out]; exact Int.emod_nonneg y (by decide)
      have J1 : J ≤ 15 := by have := Int.emod_lt_of_pos y (show (0 : Int) < 16 by decide); rw [hJ.out] at this; omega
      have j1 : y.tmod 16 = J := by rw [Int.tmod_eq_emod_of_nonneg hy0, hJ.out]
      have j2 := IntWalk.u8_in J (by omega)
      have j3 := IntWalk.i64_in J (by omega)
      have j4 := IntWalk.i64_in (1 + J) (by omega)
      have j5 : wrap64 (1 + J) = 1 + J := IntWalk.wrap64_in (1 + J) (by omega)
      obtain ⟨K, hKJ⟩ : ∃ z : Int, Hid (1 + J = z) := ⟨_, rfl⟩
      have KK : 1 ≤ K ∧ K ≤ 16 := by rw [← hKJ.out]; omega
      obtain ⟨Q, hQ⟩ : ∃ z : Int, Hid (7741440 / K = z) := ⟨_, rfl⟩
      have p1 : (7741440 : Int).tdiv K = Q := by rw [Int.tdiv_eq_ediv_of_nonneg (by decide), hQ.out]
      have Q0 : 0 ≤ Q := by rw [← hQ.out]; exact Int.ediv_nonneg (by decide) (by omega)
      have Q1 : Q ≤ 7741440 := by rw [← hQ.out]; exact Int.ediv_le_self _ (by decide)
      have p2 := IntWalk.i64_in Q (by omega)
      have p3 : (K == 0) = false := beq_false_of_ne (by omega)
      have p4 : ¬ K = 0 := by omega
      have p5 : (0 : Int) < K := by omega
      have HQK := Lib.hid (show ∀ x, x ≤ Q → x * K ≤ 7741440 from fun x h => by
        have h1 : x * K ≤ Q * K := Int.mul_le_mul_of_nonneg_right h (by omega)
        have h2 : Q * K ≤ 7741440 := by rw [← hQ.out]; exact Int.ediv_mul_le _ (by omega)
        omega)
      have HKK := Lib.hid KK
      clear J0 J1 KK Q0 Q1
      go_enter Try.func8, Try.ntmps8
      go_wp2_with fail
      go_big_region
      all_goals
        go_wp2_with fail
        rw [hKJ.out]
        refine (tLengths_any a b l r n c m d _ HN.out HM.out HM2.out (H1.out.later (by (repeat' (first | (with_reducible exact G.refl _) | (with_reducible assumption) | (with_reducible refine G.drewN ?_ _) | (with_reducible refine G.drew ?_) | (with_reducible refine G.alloc ?_ _) | (with_reducible refine G.setCell ?_ (by first | (with_reducible exact Nat.le_refl _) | (simp; done) | (simp; omega) | omega) _) | (with_reducible refine G.trans ?_ (by assumption)))))) HC.out (H2.out.later (by (repeat' (first | (with_reducible exact G.refl _) | (with_reducible assumption) | (with_reducible refine G.drewN ?_ _) | (with_reducible refine G.drew ?_) | (with_reducible refine G.alloc ?_ _) | (with_reducible refine G.setCell ?_ (by first | (with_reducible exact Nat.le_refl _) | (simp; done) | (simp; omega) | omega) _) | (with_reducible refine G.trans ?_ (by assumption))))))).mono ?_
        rintro e w1 ⟨v, rfl, hR, hG⟩
        have g1 : G w w1 := G.trans (by (repeat' (first | (with_reducible exact G.refl _) | (with_reducible refine G.drewN ?_ _) | (with_reducible refine G.drew ?_) | (with_reducible refine G.alloc ?_ _)))) hG
        have HQ1 := Lib.hid hR.q
        clear hR
        by_cases hk : lensT l r = 0
        rotate_left
        · obtain ⟨E, hE⟩ : ∃ z : Int, Hid (lensT l r = z) := ⟨_, rfl⟩
          have hA := HQ1.out
          unfold LensQ at hA
          rw [if_neg hk] at hA
          subst hA
          rw [hE.out] at hk ⊢
          have e3 : (E == 0) = false := beq_false_of_ne hk
          have e4 : (E != 0) = true := by simp [bne, e3]
          clear hk HQ1
          go_wp2_with fail
          go_loopg [10, 11] 0 (fun q x y wr => x = .slice none 0 0 ∧ y = .int .i64 0 ∧ q = 0 ∧ G w1 wr)
          case atStart => exact ⟨rfl, rfl, rfl, by (repeat' (first | (with_reducible exact G.refl _) | (with_reducible assumption) | (with_reducible refine G.drewN ?_ _) | (with_reducible refine G.drew ?_) | (with_reducible refine G.alloc ?_ _) | (with_reducible refine G.setCell ?_ (by first | (with_reducible exact Nat.le_refl _) | (simp; done) | (simp; omega) | omega) _) | (with_reducible refine G.trans ?_ (by assumption))))⟩
          case round =>
            obtain ⟨rfl, rfl, rfl, gr⟩ := hrel
            by_cases m0 : (0 : Int) < (m : Int)
            · go_wp2_with fail
              refine (known_any _).mono ?_
              rintro x w6 ⟨rfl, hG6⟩
              have g6 : G w1 w6 := gr.trans (G.trans (by (repeat' (first | (with_reducible exact G.refl _) | (with_reducible refine G.drewN ?_ _) | (with_reducible refine G.drew ?_) | (with_reducible refine G.alloc ?_ _)))) hG6)
              go_wp2_with fail
              go_ret
              exact ⟨by first | rfl | simp, g1.trans (g6.trans (by (repeat' (first | (with_reducible exact G.refl _) | (with_reducible assumption) | (with_reducible refine G.drewN ?_ _) | (with_reducible refine G.drew ?_) | (with_reducible refine G.alloc ?_ _) | (with_reducible refine G.setCell ?_ (by first | (with_reducible exact Nat.le_refl _) | (simp; done) | (simp; omega) | omega) _) | (with_reducible refine G.trans ?_ (by assumption))))))⟩
            · first
                | (exfalso; omega)
                | (go_wp2_with fail
                   refine (known_any _).mono ?_
                   rintro x w6 ⟨rfl, hG6⟩
                   have g6 : G w1 w6 := gr.trans (G.trans (by (repeat' (first | (with_reducible exact G.refl _) | (with_reducible refine G.drewN ?_ _) | (with_reducible refine G.drew ?_) | (with_reducible refine G.alloc ?_ _)))) hG6)
                   go_wp2_with fail
                   go_ret
                   exact ⟨by first | rfl | simp, g1.trans (g6.trans (by (repeat' (first | (with_reducible exact G.refl _) | (with_reducible assumption) | (with_reducible refine G.drewN ?_ _) | (with_reducible refine G.drew ?_) | (with_reducible refine G.alloc ?_ _) | (with_reducible refine G.setCell ?_ (by first | (with_reducible exact Nat.le_refl _) | (simp; done) | (simp; omega) | omega) _) | (with_reducible refine G.trans ?_ (by assumption))))))⟩)
        have HK0 := Lib.hid hk
        have hA := HQ1.out
        unfold LensQ at hA
        rw [if_pos hk] at hA
        obtain ⟨pa, pc, rfl, hIA⟩ := hA
        have HIA := Lib.hid hIA
        have HIN := Lib.hid (fun i x (h : r[i]? = some x) => lensT_in hk h)
        rw [hk, HM.out]
        clear hIA hk HQ1
        obtain ⟨i0, hi0, hz0, hz1, hz2⟩ := info_parts' iInfo
        go_wp2_with fail
        go_loopg [10, 11] m (fun q y z wr => ∃ (i : Nat) (v : Value), v = y ∧ z = .int .i64 i ∧ q = m - i ∧ i ≤ m ∧ Hid (Row inE 3 1 w1.heap.size wr v ((r.take i).map (· * K))) ∧ Hid (∀ x ∈ r.take i, x * K ≤ 7741440) ∧ G w1 wr)
        case atStart => exact ⟨0, _, rfl, rfl, by omega, by omega, Lib.hid (by simpa using Row.nil (enc := inE) w1), Lib.hid (by simp), by (repeat' (first | (with_reducible exact G.refl _) | (with_reducible assumption) | (with_reducible refine G.drewN ?_ _) | (with_reducible refine G.drew ?_) | (with_reducible refine G.alloc ?_ _) | (with_reducible refine G.setCell ?_ (by first | (with_reducible exact Nat.le_refl _) | (simp; done) | (simp; omega) | omega) _) | (with_reducible refine G.trans ?_ (by assumption))))⟩
        case round =>
          obtain ⟨i, v, rfl, rfl, hq, hi', hR, hX, gr⟩ := hrel
          have gwr : G w wr := g1.trans gr
          have HQ := Lib.hid hq
          clear hq
          by_cases hin : i < m
          · obtain ⟨x, hx⟩ : ∃ z, r[i]? = some z := ⟨r[i]'(by have := HM.out; omega), List.getElem?_eq_getElem (by have := HM.out; omega)⟩
            rcases H2.out with hz | ⟨b0, of, rfl, fc⟩
            · rw [hz] at hx; simp at hx
            have x0 := gwr.at (fc i _ hx)
            have HX := Lib.hid hx
            have HXI := Lib.hid (HIN.out i x hx)
            have HTN := Lib.hid (show r.take (i + 1) = r.take i ++ [x] by rw [List.take_add_one, hx]; rfl)
            have HLT := Lib.hid (show ((r.take i).map (· * K)).length = i by rw [List.length_map, List.length_take]; have := HM.out; omega)
            have b1 : (0 : Int) ≤ (i : Int) := by omega
            have b2 : (i : Int) < (m : Int) := by omega
            have q1 := IntWalk.i64_in ((i : Int) + 1) (by have := HM2.out; omega)
            clear fc hx
            by_cases hxq : Q < x
            · go_wp2_with fail
              go_big_region
              all_goals
                go_wp2_with fail
                refine (known_any _).mono ?_
                rintro x w6 ⟨rfl, hG6⟩
                have g6 : G w1 w6 := gr.trans (G.trans (by (repeat' (first | (with_reducible exact G.refl _) | (with_reducible refine G.drewN ?_ _) | (with_reducible refine G.drew ?_) | (with_reducible refine G.alloc ?_ _)))) hG6)
                go_wp2_with fail
                go_ret
                exact ⟨by first | rfl | simp, g1.trans (g6.trans (by (repeat' (first | (with_reducible exact G.refl _) | (with_reducible assumption) | (with_reducible refine G.drewN ?_ _) | (with_reducible refine G.drew ?_) | (with_reducible refine G.alloc ?_ _) | (with_reducible refine G.setCell ?_ (by first | (with_reducible exact Nat.le_refl _) | (simp; done) | (simp; omega) | omega) _) | (with_reducible refine G.trans ?_ (by assumption))))))⟩
            · have HXK := Lib.hid (HQK.out x (by omega))
              have q2 := IntWalk.i64_in (x * K) (by have := HXK.out; have : 0 ≤ x * K := Int.mul_nonneg HXI.out.1 (by have := HKK.out; omega); omega)
              go_wp2_with fail
              go_big_region
              all_goals
                go_wp2_with (at_builtin; refine wpList_append_own _ rfl _ _ 40 rfl w1.heap.size 3 i0 (.int .i64 0) 1 8 Try.underlying40 hi0 hz0 hz1 hz2 rfl (by decide) v ((r.take i).map (· * K)).length (((r.take i).map (· * K)).flatMap inE) rfl (hR.out.later (show G wr _ by (repeat' (first | (with_reducible exact G.refl _) | (with_reducible assumption) | (with_reducible refine G.drewN ?_ _) | (with_reducible refine G.drew ?_) | (with_reducible refine G.alloc ?_ _) | (with_reducible refine G.setCell ?_ (by first | (with_reducible exact Nat.le_refl _) | (simp; done) | (simp; omega) | omega) _) | (with_reducible refine G.trans ?_ (by assumption)))))) ⟨wr.heap.size, 0, none⟩ 1 1 [.int .i64 (x * K)] rfl rfl (new_add _ _ [.int .i64 (x * K)] _ (by simp [go_sem])) (by simp [Value.oneCell']) (by unfold maxLen; rw [HLT.out]; have := HM2.out; omega) (by rw [HLT.out]; have := HM2.out; omega) (by have := gr.size; simp [go_sem]; omega) ?_; intro v' w7 hown' hgrow _)
                have RN := Lib.hid (Row.more (enc := inE) (M := (r.take i).map (· * K)) (x := x * K) hown')
                have gN : G w1 w7 := Below.grown (B := w1.heap.size) (show G w1 _ from gr.trans (by (repeat' (first | (with_reducible exact G.refl _) | (with_reducible assumption) | (with_reducible refine G.drewN ?_ _) | (with_reducible refine G.drew ?_) | (with_reducible refine G.alloc ?_ _) | (with_reducible refine G.setCell ?_ (by first | (with_reducible exact Nat.le_refl _) | (simp; done) | (simp; omega) | omega) _) | (with_reducible refine G.trans ?_ (by assumption)))))) hgrow (by have := gr.size; simp [go_sem]; omega) (fun k hk => hR.out.own k hk)
                go_roundg (m - (i + 1))
                case measure => have := HQ.out; omega
                case rel => exact ⟨i + 1, v', rfl, by first | rfl | go_num, rfl, by omega, Lib.hid (by rw [HTN.out, List.map_append]; exact RN.out), Lib.hid (fun z hz => by
                  rw [HTN.out] at hz
                  rcases List.mem_append.1 hz with h | h
                  · exact hX.out z h
                  · rw [List.mem_singleton.1 h]; exact HXK.out), gN⟩
          · have hii : i = m := by omega
            have hall : r.take i = r := List.take_of_length_le (by have := HM.out; omega)
            rw [hall] at hR hX
            obtain ⟨hs1, hs2⟩ := lensT_scale HK0.out HKK.out.1 hX.out
            obtain ⟨R2, hR2⟩ : ∃ z, Hid (r.map (· * K) = z) := ⟨_, rfl⟩
            have HM3 : Hid (R2.length = m) := Lib.hid (by rw [← hR2.out, List.length_map]; exact HM.out)
            rw [hR2.out] at hR hs1 hs2
            have HS1 := Lib.hid hs1
            have HS2 := Lib.hid hs2
            obtain ⟨a3, c3, rfl, hT3⟩ := hR.out.ints
            rw [HM3.out]
            have H3 := Lib.hid hT3
            clear hT3 hR hall hs1 hs2 hX
            have hji := hii.symm
            subst hji
            go_wp2_with fail
            refine (tLengths_any a a3 l R2 n c _ c3 _ HN.out HM3.out HM2.out (H1.out.later (gwr.trans (by (repeat' (first | (with_reducible exact G.refl _) | (with_reducible assumption) | (with_reducible refine G.drewN ?_ _) | (with_reducible refine G.drew ?_) | (with_reducible refine G.alloc ?_ _) | (with_reducible refine G.setCell ?_ (by first | (with_reducible exact Nat.le_refl _) | (simp; done) | (simp; omega) | omega) _) | (with_reducible refine G.trans ?_ (by assumption))))))) HC.out (H3.out.later (by (repeat' (first | (with_reducible exact G.refl _) | (with_reducible assumption) | (with_reducible refine G.drewN ?_ _) | (with_reducible refine G.drew ?_) | (with_reducible refine G.alloc ?_ _) | (with_reducible refine G.setCell ?_ (by first | (with_reducible exact Nat.le_refl _) | (simp; done) | (simp; omega) | omega) _) | (with_reducible refine G.trans ?_ (by assumption))))))).mono ?_
            rintro e w5 ⟨v5, rfl, hR5, hG5⟩
            have g5 : G wr w5 := G.trans (by (repeat' (first | (with_reducible exact G.refl _) | (with_reducible refine G.drewN ?_ _) | (with_reducible refine G.drew ?_) | (with_reducible refine G.alloc ?_ _)))) hG5
            have hQ5 := hR5.q
            unfold LensQ at hQ5
            rw [if_pos HS1.out] at hQ5
            obtain ⟨pb, pd, rfl, hIB⟩ := hQ5
            rw [HS2.out] at hIB
            have HIB := Lib.hid hIB
            rw [HS1.out, HM3.out]
            clear hIB hR5
            go_wp2_with fail
            refine (known_any _).mono ?_
            rintro x w6 ⟨rfl, hG6⟩
            have g56 : G w5 w6 := G.trans (by (repeat' (first | (with_reducible exact G.refl _) | (with_reducible refine G.drewN ?_ _) | (with_reducible refine G.drew ?_) | (with_reducible refine G.alloc ?_ _)))) hG6
            have g6 : G w1 w6 := gr.trans (g5.trans g56)
            have HIA6 := Lib.hid (HIA.out.later g6)
            have HIB6 := Lib.hid (HIB.out.later g56)
            have HLL := Lib.hid (show (lens l 0 r).length = r.length from lens_len _ _ _)
            obtain ⟨M, hM⟩ : ∃ z, Hid (lens l 0 r = z) := ⟨_, rfl⟩
            rw [hM.out] at HLL HIA6 HIB6
            have HBD := Lib.hid (show ∀ x ∈ M, 0 ≤ x ∧ x ≤ 253671505920 by rw [← hM.out]; exact lens_bd (ckT_fit (lensT_ok HK0.out).1) r 0)
            have HM5 := HM2
            go_wp2_with fail
            go_loopg [14] r.length (fun q x wr2 => ∃ i : Nat, x = .int .i64 i ∧ q = r.length - i ∧ i ≤ r.length ∧ G w6 wr2)
            case atStart => exact ⟨0, rfl, by omega, by omega, by (repeat' (first | (with_reducible exact G.refl _) | (with_reducible assumption) | (with_reducible refine G.drewN ?_ _) | (with_reducible refine G.drew ?_) | (with_reducible refine G.alloc ?_ _) | (with_reducible refine G.setCell ?_ (by first | (with_reducible exact Nat.le_refl _) | (simp; done) | (simp; omega) | omega) _) | (with_reducible refine G.trans ?_ (by assumption))))⟩
            case round =>
              obtain ⟨j, rfl, hq2, hj, gr2⟩ := hrel
              have HQ2 := Lib.hid hq2
              clear hq2
              have Hm := HM.out
              by_cases hjn : j < r.length
              · obtain ⟨x, hx⟩ : ∃ z, M[j]? = some z := ⟨M[j]'(by have := HLL.out; omega), List.getElem?_eq_getElem (by have := HLL.out; omega)⟩
                have hxk : (M.map (· * K))[j]? = some (x * K) := by rw [List.getElem?_map, hx]; rfl
                rcases HIA6.out with hz | ⟨b7, o7, rfl, f7⟩
                · rw [hz] at hx; simp at hx
                rcases HIB6.out with hz | ⟨b8, o8, rfl, f8⟩
                · rw [hz] at hxk; simp at hxk
                have y0 := gr2.at (f7 j _ hx)
                have y1 := gr2.at (f8 j _ hxk)
                have hbx := HBD.out x (List.mem_of_getElem? hx)
                have k0 : 0 ≤ x * K := Int.mul_nonneg hbx.1 (by have := HKK.out; omega)
                have k1 : x * K ≤ 253671505920 * 16 := Int.mul_le_mul hbx.2 HKK.out.2 (by have := HKK.out; omega) (by decide)
                have q2 := IntWalk.i64_in (x * K) (by omega)
                have b1 : (0 : Int) ≤ (j : Int) := by omega
                have b2 : (j : Int) < (m : Int) := by omega
                have q1 := IntWalk.i64_in ((j : Int) + 1) (by have := HM5.out; omega)
                clear f7 f8 hx hxk hbx k0 k1 Hm
                go_wp2_with fail
                go_big_region
                all_goals
                  go_wp2_with fail
                  go_roundg (r.length - (j + 1))
                  case measure => have := HQ2.out; omega
                  case rel => exact ⟨j + 1, by go_num, rfl, by omega, by (repeat' (first | (with_reducible exact G.refl _) | (with_reducible assumption) | (with_reducible refine G.drewN ?_ _) | (with_reducible refine G.drew ?_) | (with_reducible refine G.alloc ?_ _) | (with_reducible refine G.setCell ?_ (by first | (with_reducible exact Nat.le_refl _) | (simp; done) | (simp; omega) | omega) _) | (with_reducible refine G.trans ?_ (by assumption))))⟩
              · have b2 : ¬ (j : Int) < (m : Int) := by omega
                clear Hm
                go_wp2_with fail
                go_ret
                exact ⟨by first | rfl | simp, g1.trans (g6.trans (gr2.trans (by (repeat' (first | (with_reducible exact G.refl _) | (with_reducible assumption) | (with_reducible refine G.drewN ?_ _) | (with_reducible refine G.drew ?_) | (with_reducible refine G.alloc ?_ _) | (with_reducible refine G.setCell ?_ (by first | (with_reducible exact Nat.le_refl _) | (simp; done) | (simp; omega) | omega) _) | (with_reducible refine G.trans ?_ (by assumption)))))))⟩
    · have H1 := Lib.hid h1
      have HC := Lib.hid (cb_of hwf)
      have HN := Lib.hid (show l0.length = l0.length from rfl)
      have HK := Lib.hid (show l0.length ≤ 20 by omega)
      have m3 : (l0.length : Int) ≤ (c : Int) := by omega
      have m5 : l0.length ≤ c := by omega
      generalize l0 = l at *
      obtain ⟨n, hn⟩ : ∃ z : Nat, Hid (l.length = z) := ⟨_, rfl⟩
      rw [hn.out] at HK k20 m3 m5 ⊢
      clear HN h1 hwf hc
      have HN := hn
      clear hn
      have H2 := Lib.hid (h2.take 130)
      have HM := Lib.hid (show (r0.take 130).length = 130 by rw [List.length_take]; omega)
      have HM2 := Lib.hid (show 130 ≤ 1000 by omega)
      have u3 : (130 : Int) ≤ (d : Int) := by omega
      have u4 : 130 ≤ d := by omega
      generalize r0.take 130 = r at *
      clear h2 hd
      obtain ⟨J, hJ⟩ : ∃ z : Int, Hid (y % 16 = z) := ⟨_, rfl⟩
      have J0 : 0 ≤ J := by rw [← hJ.out]; exact Int.emod_nonneg y (by decide)
      have J1 : J ≤ 15 := by have := Int.emod_lt_of_pos y (show (0 : Int) < 16 by decide); rw [hJ.out] at this; omega
      have j1 : y.tmod 16 = J := by rw [Int.tmod_eq_emod_of_nonneg hy0, hJ.out]
      have j2 := IntWalk.u8_in J (by omega)
      have j3 := IntWalk.i64_in J (by omega)
      have j4 := IntWalk.i64_in (1 + J) (by omega)
      have j5 : wrap64 (1 + J) = 1 + J := IntWalk.wrap64_in (1 + J) (by omega)
      obtain ⟨K, hKJ⟩ : ∃ z : Int, Hid (1 + J = z) := ⟨_, rfl⟩
      have KK : 1 ≤ K ∧ K ≤ 16 := by rw [← hKJ.out]; omega
      obtain ⟨Q, hQ⟩ : ∃ z : Int, Hid (7741440 / K = z) := ⟨_, rfl⟩
      have p1 : (7741440 : Int).tdiv K = Q := by rw [Int.tdiv_eq_ediv_of_nonneg (by decide), hQ.out]
      have Q0 : 0 ≤ Q := by rw [← hQ.out]; exact Int.ediv_nonneg (by decide) (by omega)
      have Q1 : Q ≤ 7741440 := by rw [← hQ.out]; exact Int.ediv_le_self _ (by decide)
      have p2 := IntWalk.i64_in Q (by omega)
      have p3 : (K == 0) = false := beq_false_of_ne (by omega)
      have p4 : ¬ K = 0 := by omega
      have p5 : (0 : Int) < K := by omega
      have HQK := Lib.hid (show ∀ x, x ≤ Q → x * K ≤ 7741440 from fun x h => by
        have h1 : x * K ≤ Q * K := Int.mul_le_mul_of_nonneg_right h (by omega)
        have h2 : Q * K ≤ 7741440 := by rw [← hQ.out]; exact Int.ediv_mul_le _ (by omega)
        omega)
      have HKK := Lib.hid KK
      clear J0 J1 KK Q0 Q1
      go_enter Try.func8, Try.ntmps8
      go_wp2_with fail
      go_big_region
      all_goals
        go_wp2_with fail
        rw [hKJ.out]
        refine (tLengths_any a b l r n c 130 d _ HN.out HM.out HM2.out (H1.out.later (by (repeat' (first | (with_reducible exact G.refl _) | (with_reducible assumption) | (with_reducible refine G.drewN ?_ _) | (with_reducible refine G.drew ?_) | (with_reducible refine G.alloc ?_ _) | (with_reducible refine G.setCell ?_ (by first | (with_reducible exact Nat.le_refl _) | (simp; done) | (simp; omega) | omega) _) | (with_reducible refine G.trans ?_ (by assumption)))))) HC.out (H2.out.later (by (repeat' (first | (with_reducible exact G.refl _) | (with_reducible assumption) | (with_reducible refine G.drewN ?_ _) | (with_reducible refine G.drew ?_) | (with_reducible refine G.alloc ?_ _) | (with_reducible refine G.setCell ?_ (by first | (with_reducible exact Nat.le_refl _) | (simp; done) | (simp; omega) | omega) _) | (with_reducible refine G.trans ?_ (by assumption))))))).mono ?_
        rintro e w1 ⟨v, rfl, hR, hG⟩
        have g1 : G w w1 := G.trans (by (repeat' (first | (with_reducible exact G.refl _) | (with_reducible refine G.drewN ?_ _) | (with_reducible refine G.drew ?_) | (with_reducible refine G.alloc ?_ _)))) hG
        have HQ1 := Lib.hid hR.q
        clear hR
        by_cases hk : lensT l r = 0
        rotate_left
        · obtain ⟨E, hE⟩ : ∃ z : Int, Hid (lensT l r = z) := ⟨_, rfl⟩
          have hA := HQ1.out
          unfold LensQ at hA
          rw [if_neg hk] at hA
          subst hA
          rw [hE.out] at hk ⊢
          have e3 : (E == 0) = false := beq_false_of_ne hk
          have e4 : (E != 0) = true := by simp [bne, e3]
          clear hk HQ1
          go_wp2_with fail
          go_loopg [10, 11] 0 (fun q x y wr => x = .slice none 0 0 ∧ y = .int .i64 0 ∧ q = 0 ∧ G w1 wr)
          case atStart => exact ⟨rfl, rfl, rfl, by (repeat' (first | (with_reducible exact G.refl _) | (with_reducible assumption) | (with_reducible refine G.drewN ?_ _) | (with_reducible refine G.drew ?_) | (with_reducible refine G.alloc ?_ _) | (with_reducible refine G.setCell ?_ (by first | (with_reducible exact Nat.le_refl _) | (simp; done) | (simp; omega) | omega) _) | (with_reducible refine G.trans ?_ (by assumption))))⟩
          case round =>
            obtain ⟨rfl, rfl, rfl, gr⟩ := hrel
            by_cases m0 : (0 : Int) < (130 : Int)
            · go_wp2_with fail
              refine (known_any _).mono ?_
              rintro x w6 ⟨rfl, hG6⟩
              have g6 : G w1 w6 := gr.trans (G.trans (by (repeat' (first | (with_reducible exact G.refl _) | (with_reducible refine G.drewN ?_ _) | (with_reducible refine G.drew ?_) | (with_reducible refine G.alloc ?_ _)))) hG6)
              go_wp2_with fail
              go_ret
              exact ⟨by first | rfl | simp, g1.trans (g6.trans (by (repeat' (first | (with_reducible exact G.refl _) | (with_reducible assumption) | (with_reducible refine G.drewN ?_ _) | (with_reducible refine G.drew ?_) | (with_reducible refine G.alloc ?_ _) | (with_reducible refine G.setCell ?_ (by first | (with_reducible exact Nat.le_refl _) | (simp; done) | (simp; omega) | omega) _) | (with_reducible refine G.trans ?_ (by assumption))))))⟩
            · first
                | (exfalso; omega)
                | (go_wp2_with fail
                   refine (known_any _).mono ?_
                   rintro x w6 ⟨rfl, hG6⟩
                   have g6 : G w1 w6 := gr.trans (G.trans (by (repeat' (first | (with_reducible exact G.refl _) | (with_reducible refine G.drewN ?_ _) | (with_reducible refine G.drew ?_) | (with_reducible refine G.alloc ?_ _)))) hG6)
                   go_wp2_with fail
                   go_ret
                   exact ⟨by first | rfl | simp, g1.trans (g6.trans (by (repeat' (first | (with_reducible exact G.refl _) | (with_reducible assumption) | (with_reducible refine G.drewN ?_ _) | (with_reducible refine G.drew ?_) | (with_reducible refine G.alloc ?_ _) | (with_reducible refine G.setCell ?_ (by first | (with_reducible exact Nat.le_refl _) | (simp; done) | (simp; omega) | omega) _) | (with_reducible refine G.trans ?_ (by assumption))))))⟩)
        have HK0 := Lib.hid hk
        have hA := HQ1.out
        unfold LensQ at hA
        rw [if_pos hk] at hA
        obtain ⟨pa, pc, rfl, hIA⟩ := hA
        have HIA := Lib.hid hIA
        have HIN := Lib.hid (fun i x (h : r[i]? = some x) => lensT_in hk h)
        rw [hk, HM.out]
        clear hIA hk HQ1
        obtain ⟨i0, hi0, hz0, hz1, hz2⟩ := info_parts' iInfo
        go_wp2_with fail
        go_loopg [10, 11] 130 (fun q y z wr => ∃ (i : Nat) (v : Value), v = y ∧ z = .int .i64 i ∧ q = 130 - i ∧ i ≤ 130 ∧ Hid (Row inE 3 1 w1.heap.size wr v ((r.take i).map (· * K))) ∧ Hid (∀ x ∈ r.take i, x * K ≤ 7741440) ∧ G w1 wr)
        case atStart => exact ⟨0, _, rfl, rfl, by omega, by omega, Lib.hid (by simpa using Row.nil (enc := inE) w1), Lib.hid (by simp), by (repeat' (first | (with_reducible exact G.refl _) | (with_reducible assumption) | (with_reducible refine G.drewN ?_ _) | (with_reducible refine G.drew ?_) | (with_reducible refine G.alloc ?_ _) | (with_reducible refine G.setCell ?_ (by first | (with_reducible exact Nat.le_refl _) | (simp; done) | (simp; omega) | omega) _) | (with_reducible refine G.trans ?_ (by assumption))))⟩
        case round =>
          obtain ⟨i, v, rfl, rfl, hq, hi', hR, hX, gr⟩ := hrel
          have gwr : G w wr := g1.trans gr
          have HQ := Lib.hid hq
          clear hq
          by_cases hin : i < 130
          · obtain ⟨x, hx⟩ : ∃ z, r[i]? = some z := ⟨r[i]'(by have := HM.out; omega), List.getElem?_eq_getElem (by have := HM.out; omega)⟩
            rcases H2.out with hz | ⟨b0, of, rfl, fc⟩
            · rw [hz] at hx; simp at hx
            have x0 := gwr.at (fc i _ hx)
            have HX := Lib.hid hx
            have HXI := Lib.hid (HIN.out i x hx)
            have HTN := Lib.hid (show r.take (i + 1) = r.take i ++ [x] by rw [List.take_add_one, hx]; rfl)
            have HLT := Lib.hid (show ((r.take i).map (· * K)).length = i by rw [List.length_map, List.length_take]; have := HM.out; omega)
            have b1 : (0 : Int) ≤ (i : Int) := by omega
            have b2 : (i : Int) < (130 : Int) := by omega
            have q1 := IntWalk.i64_in ((i : Int) + 1) (by have := HM2.out; omega)
            clear fc hx
            by_cases hxq : Q < x
            · go_wp2_with fail
              go_big_region
              all_goals
                go_wp2_with fail
                refine (known_any _).mono ?_
                rintro x w6 ⟨rfl, hG6⟩
                have g6 : G w1 w6 := gr.trans (G.trans (by (repeat' (first | (with_reducible exact G.refl _) | (with_reducible refine G.drewN ?_ _) | (with_reducible refine G.drew ?_) | (with_reducible refine G.alloc ?_ _)))) hG6)
                go_wp2_with fail
                go_ret
                exact ⟨by first | rfl | simp, g1.trans (g6.trans (by (repeat' (first | (with_reducible exact G.refl _) | (with_reducible assumption) | (with_reducible refine G.drewN ?_ _) | (with_reducible refine G.drew ?_) | (with_reducible refine G.alloc ?_ _) | (with_reducible refine G.setCell ?_ (by first | (with_reducible exact Nat.le_refl _) | (simp; done) | (simp; omega) | omega) _) | (with_reducible refine G.trans ?_ (by assumption))))))⟩
            · have HXK := Lib.hid (HQK.out x (by omega))
              have q2 := IntWalk.i64_in (x * K) (by have := HXK.out; have : 0 ≤ x * K := Int.mul_nonneg HXI.out.1 (by have := HKK.out; omega); omega)
              go_wp2_with fail
              go_big_region
              all_goals
                go_wp2_with (at_builtin; refine wpList_append_own _ rfl _ _ 40 rfl w1.heap.size 3 i0 (.int .i64 0) 1 8 Try.underlying40 hi0 hz0 hz1 hz2 rfl (by decide) v ((r.take i).map (· * K)).length (((r.take i).map (· * K)).flatMap inE) rfl (hR.out.later (show G wr _ by (repeat' (first | (with_reducible exact G.refl _) | (with_reducible assumption) | (with_reducible refine G.drewN ?_ _) | (with_reducible refine G.drew ?_) | (with_reducible refine G.alloc ?_ _) | (with_reducible refine G.setCell ?_ (by first | (with_reducible exact Nat.le_refl _) | (simp; done) | (simp; omega) | omega) _) | (with_reducible refine G.trans ?_ (by assumption)))))) ⟨wr.heap.size, 0, none⟩ 1 1 [.int .i64 (x * K)] rfl rfl (new_add _ _ [.int .i64 (x * K)] _ (by simp [go_sem])) (by simp [Value.oneCell']) (by unfold maxLen; rw [HLT.out]; have := HM2.out; omega) (by rw [HLT.out]; have := HM2.out; omega) (by have := gr.size; simp [go_sem]; omega) ?_; intro v' w7 hown' hgrow _)
                have RN := Lib.hid (Row.more (enc := inE) (M := (r.take i).map (· * K)) (x := x * K) hown')
                have gN : G w1 w7 := Below.grown (B := w1.heap.size) (show G w1 _ from gr.trans (by (repeat' (first | (with_reducible exact G.refl _) | (with_reducible assumption) | (with_reducible refine G.drewN ?_ _) | (with_reducible refine G.drew ?_) | (with_reducible refine G.alloc ?_ _) | (with_reducible refine G.setCell ?_ (by first | (with_reducible exact Nat.le_refl _) | (simp; done) | (simp; omega) | omega) _) | (with_reducible refine G.trans ?_ (by assumption)))))) hgrow (by have := gr.size; simp [go_sem]; omega) (fun k hk => hR.out.own k hk)
                go_roundg (130 - (i + 1))
                case measure => have := HQ.out; omega
                case rel => exact ⟨i + 1, v', rfl, by first | rfl | go_num, rfl, by omega, Lib.hid (by rw [HTN.out, List.map_append]; exact RN.out), Lib.hid (fun z hz => by
                  rw [HTN.out] at hz
                  rcases List.mem_append.1 hz with h | h
                  · exact hX.out z h
                  · rw [List.mem_singleton.1 h]; exact HXK.out), gN⟩
          · have hii : i = 130 := by omega
            have hall : r.take i = r := List.take_of_length_le (by have := HM.out; omega)
            rw [hall] at hR hX
            obtain ⟨hs1, hs2⟩ := lensT_scale HK0.out HKK.out.1 hX.out
            obtain ⟨R2, hR2⟩ : ∃ z, Hid (r.map (· * K) = z) := ⟨_, rfl⟩
            have HM3 : Hid (R2.length = 130) := Lib.hid (by rw [← hR2.out, List.length_map]; exact HM.out)
            rw [hR2.out] at hR hs1 hs2
            have HS1 := Lib.hid hs1
            have HS2 := Lib.hid hs2
            obtain ⟨a3, c3, rfl, hT3⟩ := hR.out.ints
            rw [HM3.out]
            have H3 := Lib.hid hT3
            clear hT3 hR hall hs1 hs2 hX
            have hji := hii.symm
            subst hji
            go_wp2_with fail
            refine (tLengths_any a a3 l R2 n c _ c3 _ HN.out HM3.out HM2.out (H1.out.later (gwr.trans (by (repeat' (first | (with_reducible exact G.refl _) | (with_reducible assumption) | (with_reducible refine G.drewN ?_ _) | (with_reducible refine G.drew ?_) | (with_reducible refine G.alloc ?_ _) | (with_reducible refine G.setCell ?_ (by first | (with_reducible exact Nat.le_refl _) | (simp; done) | (simp; omega) | omega) _) | (with_reducible refine G.trans ?_ (by assumption))))))) HC.out (H3.out.later (by (repeat' (first | (with_reducible exact G.refl _) | (with_reducible assumption) | (with_reducible refine G.drewN ?_ _) | (with_reducible refine G.drew ?_) | (with_reducible refine G.alloc ?_ _) | (with_reducible refine G.setCell ?_ (by first | (with_reducible exact Nat.le_refl _) | (simp; done) | (simp; omega) | omega) _) | (with_reducible refine G.trans ?_ (by assumption))))))).mono ?_
            rintro e w5 ⟨v5, rfl, hR5, hG5⟩
            have g5 : G wr w5 := G.trans (by (repeat' (first | (with_reducible exact G.refl _) | (with_reducible refine G.drewN ?_ _) | (with_reducible refine G.drew ?_) | (with_reducible refine G.alloc ?_ _)))) hG5
            have hQ5 := hR5.q
            unfold LensQ at hQ5
            rw [if_pos HS1.out] at hQ5
            obtain ⟨pb, pd, rfl, hIB⟩ := hQ5
            rw [HS2.out] at hIB
            have HIB := Lib.hid hIB
            rw [HS1.out, HM3.out]
            clear hIB hR5
            go_wp2_with fail
            refine (known_any _).mono ?_
            rintro x w6 ⟨rfl, hG6⟩
            have g56 : G w5 w6 := G.trans (by (repeat' (first | (with_reducible exact G.refl _) | (with_reducible refine G.drewN ?_ _) | (with_reducible refine G.drew ?_) | (with_reducible refine G.alloc ?_ _)))) hG6
            have g6 : G w1 w6 := gr.trans (g5.trans g56)
            have HIA6 := Lib.hid (HIA.out.later g6)
            have HIB6 := Lib.hid (HIB.out.later g56)
            have HLL := Lib.hid (show (lens l 0 r).length = r.length from lens_len _ _ _)
            obtain ⟨M, hM⟩ : ∃ z, Hid (lens l 0 r = z) := ⟨_, rfl⟩
            rw [hM.out] at HLL HIA6 HIB6
            have HBD := Lib.hid (show ∀ x ∈ M, 0 ≤ x ∧ x ≤ 253671505920 by rw [← hM.out]; exact lens_bd (ckT_fit (lensT_ok HK0.out).1) r 0)
            have HM5 := HM2
            go_wp2_with fail
            go_loopg [14] r.length (fun q x wr2 => ∃ i : Nat, x = .int .i64 i ∧ q = r.length - i ∧ i ≤ r.length ∧ G w6 wr2)
            case atStart => exact ⟨0, rfl, by omega, by omega, by (repeat' (first | (with_reducible exact G.refl _) | (with_reducible assumption) | (with_reducible refine G.drewN ?_ _) | (with_reducible refine G.drew ?_) | (with_reducible refine G.alloc ?_ _) | (with_reducible refine G.setCell ?_ (by first | (with_reducible exact Nat.le_refl _) | (simp; done) | (simp; omega) | omega) _) | (with_reducible refine G.trans ?_ (by assumption))))⟩
            case round =>
              obtain ⟨j, rfl, hq2, hj, gr2⟩ := hrel
              have HQ2 := Lib.hid hq2
              clear hq2
              have H130 := HM.out
              by_cases hjn : j < r.length
              · obtain ⟨x, hx⟩ : ∃ z, M[j]? = some z := ⟨M[j]'(by have := HLL.out; omega), List.getElem?_eq_getElem (by have := HLL.out; omega)⟩
                have hxk : (M.map (· * K))[j]? = some (x * K) := by rw [List.getElem?_map, hx]; rfl
                rcases HIA6.out with hz | ⟨b7, o7, rfl, f7⟩
                · rw [hz] at hx; simp at hx
                rcases HIB6.out with hz | ⟨b8, o8, rfl, f8⟩
                · rw [hz] at hxk; simp at hxk
                have y0 := gr2.at (f7 j _ hx)
                have y1 := gr2.at (f8 j _ hxk)
                have hbx := HBD.out x (List.mem_of_getElem? hx)
                have k0 : 0 ≤ x * K := Int.mul_nonneg hbx.1 (by have := HKK.out; omega)
                have k1 : x * K ≤ 253671505920 * 16 := Int.mul_le_mul hbx.2 HKK.out.2 (by have := HKK.out; omega) (by decide)
                have q2 := IntWalk.i64_in (x * K) (by omega)
                have b1 : (0 : Int) ≤ (j : Int) := by omega
                have b2 : (j : Int) < (130 : Int) := by omega
                have q1 := IntWalk.i64_in ((j : Int) + 1) (by have := HM5.out; omega)
                clear f7 f8 hx hxk hbx k0 k1 H130
                go_wp2_with fail
                go_big_region
                all_goals
                  go_wp2_with fail
                  go_roundg (r.length - (j + 1))
                  case measure => have := HQ2.out; omega
                  case rel => exact ⟨j + 1, by go_num, rfl, by omega, by (repeat' (first | (with_reducible exact G.refl _) | (with_reducible assumption) | (with_reducible refine G.drewN ?_ _) | (with_reducible refine G.drew ?_) | (with_reducible refine G.alloc ?_ _) | (with_reducible refine G.setCell ?_ (by first | (with_reducible exact Nat.le_refl _) | (simp; done) | (simp; omega) | omega) _) | (with_reducible refine G.trans ?_ (by assumption))))⟩
              · have b2 : ¬ (j : Int) < (130 : Int) := by omega
                clear H130
                go_wp2_with fail
                go_ret
                exact ⟨by first | rfl | simp, g1.trans (g6.trans (gr2.trans (by (repeat' (first | (with_reducible exact G.refl _) | (with_reducible assumption) | (with_reducible refine G.drewN ?_ _) | (with_reducible refine G.drew ?_) | (with_reducible refine G.alloc ?_ _) | (with_reducible refine G.setCell ?_ (by first | (with_reducible exact Nat.le_refl _) | (simp; done) | (simp; omega) | omega) _) | (with_reducible refine G.trans ?_ (by assumption)))))))⟩
  · by_cases k130 : (r0.length : Int) ≤ 130
    · have H1 := Lib.hid (h1.take 20)
      have HC := Lib.hid ((cb_of hwf).take 20)
      have HN := Lib.hid (show (l0.take 20).length = 20 by rw [List.length_take]; omega)
      have HK := Lib.hid (show 20 ≤ 20 from Nat.le_refl _)
      have m3 : (20 : Int) ≤ (c : Int) := by omega
      have m4 : 20 ≤ c := by omega
      generalize l0.take 20 = l at *
      clear h1 hwf hc
      have H2 := Lib.hid h2
      have HM2 := Lib.hid (show r0.length ≤ 1000 by omega)
      have u3 : (r0.length : Int) ≤ (d : Int) := by omega
      have u5 : r0.length ≤ d := by omega
      generalize r0 = r at *
      obtain ⟨m, hm⟩ : ∃ z : Nat, Hid (r.length = z) := ⟨_, rfl⟩
      rw [hm.out] at HM2 k130 u3 u5 ⊢
      clear h2 hd
      have HM := hm
      clear hm
      obtain ⟨J, hJ⟩ : ∃ z : Int, Hid (y % 16 = z) := ⟨_, rfl⟩
      have J0 : 0 ≤ J := by rw [← hJ.out]; exact Int.emod_nonneg y (by decide)
      have J1 : J ≤ 15 := by have := Int.emod_lt_of_pos y (show (0 : Int) < 16 by decide); rw [hJ.out] at this; omega
      have j1 : y.tmod 16 = J := by rw [Int.tmod_eq_emod_of_nonneg hy0, hJ.out]
      have j2 := IntWalk.u8_in J (by omega)
      have j3 := IntWalk.i64_in J (by omega)
      have j4 := IntWalk.i64_in (1 + J) (by omega)
      have j5 : wrap64 (1 + J) = 1 + J := IntWalk.wrap64_in (1 + J) (by omega)
      obtain ⟨K, hKJ⟩ : ∃ z : Int, Hid (1 + J = z) := ⟨_, rfl⟩
      have KK : 1 ≤ K ∧ K ≤ 16 := by rw [← hKJ.out]; omega
      obtain ⟨Q, hQ⟩ : ∃ z : Int, Hid (7741440 / K = z) := ⟨_, rfl⟩
      have p1 : (7741440 : Int).tdiv K = Q := by rw [Int.tdiv_eq_ediv_of_nonneg (by decide), hQ.out]
      have Q0 : 0 ≤ Q := by rw [← hQ.out]; exact Int.ediv_nonneg (by decide) (by omega)
      have Q1 : Q ≤ 7741440 := by rw [← hQ.out]; exact Int.ediv_le_self _ (by decide)
      have p2 := IntWalk.i64_in Q (by omega)
      have p3 : (K == 0) = false := beq_false_of_ne (by omega)
      have p4 : ¬ K = 0 := by omega
      have p5 : (0 : Int) < K := by omega
      have HQK := Lib.hid (show ∀ x, x ≤ Q → x * K ≤ 7741440 from fun x h => by
        have h1 : x * K ≤ Q * K := Int.mul_le_mul_of_nonneg_right h (by omega)
        have h2 : Q * K ≤ 7741440 := by rw [← hQ.out]; exact Int.ediv_mul_le _ (by omega)
        omega)
      have HKK := Lib.hid KK
      clear J0 J1 KK Q0 Q1
      go_enter Try.func8, Try.ntmps8
      go_wp2_with fail
      go_big_region
      all_goals
        go_wp2_with fail
        rw [hKJ.out]
        refine (tLengths_any a b l r 20 c m d _ HN.out HM.out HM2.out (H1.out.later (by (repeat' (first | (with_reducible exact G.refl _) | (with_reducible assumption) | (with_reducible refine G.drewN ?_ _) | (with_reducible refine G.drew ?_) | (with_reducible refine G.alloc ?_ _) | (with_reducible refine G.setCell ?_ (by first | (with_reducible exact Nat.le_refl _) | (simp; done) | (simp; omega) | omega) _) | (with_reducible refine G.trans ?_ (by assumption)))))) HC.out (H2.out.later (by (repeat' (first | (with_reducible exact G.refl _) | (with_reducible assumption) | (with_reducible refine G.drewN ?_ _) | (with_reducible refine G.drew ?_) | (with_reducible refine G.alloc ?_ _) | (with_reducible refine G.setCell ?_ (by first | (with_reducible exact Nat.le_refl _) | (simp; done) | (simp; omega) | omega) _) | (with_reducible refine G.trans ?_ (by assumption))))))).mono ?_
        rintro e w1 ⟨v, rfl, hR, hG⟩
        have g1 : G w w1 := G.trans (by (repeat' (first | (with_reducible exact G.refl _) | (with_reducible refine G.drewN ?_ _) | (with_reducible refine G.drew ?_) | (with_reducible refine G.alloc ?_ _)))) hG
        have HQ1 := Lib.hid hR.q
        clear hR
        by_cases hk : lensT l r = 0
        rotate_left
        · obtain ⟨E, hE⟩ : ∃ z : Int, Hid (lensT l r = z) := ⟨_, rfl⟩
          have hA := HQ1.out
          unfold LensQ at hA
          rw [if_neg hk] at hA
          subst hA
          rw [hE.out] at hk ⊢
          have e3 : (E == 0) = false := beq_false_of_ne hk
          have e4 : (E != 0) = true := by simp [bne, e3]
          clear hk HQ1
          go_wp2_with fail
          go_loopg [10, 11] 0 (fun q x y wr => x = .slice none 0 0 ∧ y = .int .i64 0 ∧ q = 0 ∧ G w1 wr)
          case atStart => exact ⟨rfl, rfl, rfl, by (repeat' (first | (with_reducible exact G.refl _) | (with_reducible assumption) | (with_reducible refine G.drewN ?_ _) | (with_reducible refine G.drew ?_) | (with_reducible refine G.alloc ?_ _) | (with_reducible refine G.setCell ?_ (by first | (with_reducible exact Nat.le_refl _) | (simp; done) | (simp; omega) | omega) _) | (with_reducible refine G.trans ?_ (by assumption))))⟩
          case round =>
            obtain ⟨rfl, rfl, rfl, gr⟩ := hrel
            by_cases m0 : (0 : Int) < (m : Int)
            · go_wp2_with fail
              refine (known_any _).mono ?_
              rintro x w6 ⟨rfl, hG6⟩
              have g6 : G w1 w6 := gr.trans (G.trans (by (repeat' (first | (with_reducible exact G.refl _) | (with_reducible refine G.drewN ?_ _) | (with_reducible refine G.drew ?_) | (with_reducible refine G.alloc ?_ _)))) hG6)
              go_wp2_with fail
              go_ret
              exact ⟨by first | rfl | simp, g1.trans (g6.trans (by (repeat' (first | (with_reducible exact G.refl _) | (with_reducible assumption) | (with_reducible refine G.drewN ?_ _) | (with_reducible refine G.drew ?_) | (with_reducible refine G.alloc ?_ _) | (with_reducible refine G.setCell ?_ (by first | (with_reducible exact Nat.le_refl _) | (simp; done) | (simp; omega) | omega) _) | (with_reducible refine G.trans ?_ (by assumption))))))⟩
            · first
                | (exfalso; omega)
                | (go_wp2_with fail
                   refine (known_any _).mono ?_
                   rintro x w6 ⟨rfl, hG6⟩
                   have g6 : G w1 w6 := gr.trans (G.trans (by (repeat' (first | (with_reducible exact G.refl _) | (with_reducible refine G.drewN ?_ _) | (with_reducible refine G.drew ?_) | (with_reducible refine G.alloc ?_ _)))) hG6)
                   go_wp2_with fail
                   go_ret
                   exact ⟨by first | rfl | simp, g1.trans (g6.trans (by (repeat' (first | (with_reducible exact G.refl _) | (with_reducible assumption) | (with_reducible refine G.drewN ?_ _) | (with_reducible refine G.drew ?_) | (with_reducible refine G.alloc ?_ _) | (with_reducible refine G.setCell ?_ (by first | (with_reducible exact Nat.le_refl _) | (simp; done) | (simp; omega) | omega) _) | (with_reducible refine G.trans ?_ (by assumption))))))⟩)
        have HK0 := Lib.hid hk
        have hA := HQ1.out
        unfold LensQ at hA
        rw [if_pos hk] at hA
        obtain ⟨pa, pc, rfl, hIA⟩ := hA
        have HIA := Lib.hid hIA
        have HIN := Lib.hid (fun i x (h : r[i]? = some x) => lensT_in hk h)
        rw [hk, HM.out]
        clear hIA hk HQ1
        obtain ⟨i0, hi0, hz0, hz1, hz2⟩ := info_parts' iInfo
        go_wp2_with fail
        go_loopg [10, 11] m (fun q y z wr => ∃ (i : Nat) (v : Value), v = y ∧ z = .int .i64 i ∧ q = m - i ∧ i ≤ m ∧ Hid (Row inE 3 1 w1.heap.size wr v ((r.take i).map (· * K))) ∧ Hid (∀ x ∈ r.take i, x * K ≤ 7741440) ∧ G w1 wr)
        case atStart => exact ⟨0, _, rfl, rfl, by omega, by omega, Lib.hid (by simpa using Row.nil (enc := inE) w1), Lib.hid (by simp), by (repeat' (first | (with_reducible exact G.refl _) | (with_reducible assumption) | (with_reducible refine G.drewN ?_ _) | (with_reducible refine G.drew ?_) | (with_reducible refine G.alloc ?_ _) | (with_reducible refine G.setCell ?_ (by first | (with_reducible exact Nat.le_refl _) | (simp; done) | (simp; omega) | omega) _) | (with_reducible refine G.trans ?_ (by assumption))))⟩
        case round =>
          obtain ⟨i, v, rfl, rfl, hq, hi', hR, hX, gr⟩ := hrel
          have gwr : G w wr := g1.trans gr
          have HQ := Lib.hid hq
          clear hq
          by_cases hin : i < m
          · obtain ⟨x, hx⟩ : ∃ z, r[i]? = some z := ⟨r[i]'(by have := HM.out; omega), List.getElem?_eq_getElem (by have := HM.out; omega)⟩
            rcases H2.out with hz | ⟨b0, of, rfl, fc⟩
            · rw [hz] at hx; simp at hx
            have x0 := gwr.at (fc i _ hx)
            have HX := Lib.hid hx
            have HXI := Lib.hid (HIN.out i x hx)
            have HTN := Lib.hid (show r.take (i + 1) = r.take i ++ [x] by rw [List.take_add_one, hx]; rfl)
            have HLT := Lib.hid (show ((r.take i).map (· * K)).length = i by rw [List.length_map, List.length_take]; have := HM.out; omega)
            have b1 : (0 : Int) ≤ (i : Int) := by omega
            have b2 : (i : Int) < (m : Int) := by omega
            have q1 := IntWalk.i64_in ((i : Int) + 1) (by have := HM2.out; omega)
            clear fc hx
            by_cases hxq : Q < x
            · go_wp2_with fail
              go_big_region
              all_goals
                go_wp2_with fail
                refine (known_any _).mono ?_
                rintro x w6 ⟨rfl, hG6⟩
                have g6 : G w1 w6 := gr.trans (G.trans (by (repeat' (first | (with_reducible exact G.refl _) | (with_reducible refine G.drewN ?_ _) | (with_reducible refine G.drew ?_) | (with_reducible refine G.alloc ?_ _)))) hG6)
                go_wp2_with fail
                go_ret
                exact ⟨by first | rfl | simp, g1.trans (g6.trans (by (repeat' (first | (with_reducible exact G.refl _) | (with_reducible assumption) | (with_reducible refine G.drewN ?_ _) | (with_reducible refine G.drew ?_) | (with_reducible refine G.alloc ?_ _) | (with_reducible refine G.setCell ?_ (by first | (with_reducible exact Nat.le_refl _) | (simp; done) | (simp; omega) | omega) _) | (with_reducible refine G.trans ?_ (by assumption))))))⟩
            · have HXK := Lib.hid (HQK.out x (by omega))
              have q2 := IntWalk.i64_in (x * K) (by have := HXK.out; have : 0 ≤ x * K := Int.mul_nonneg HXI.out.1 (by have := HKK.out; omega); omega)
              go_wp2_with fail
              go_big_region
              all_goals
                go_wp2_with (at_builtin; refine wpList_append_own _ rfl _ _ 40 rfl w1.heap.size 3 i0 (.int .i64 0) 1 8 Try.underlying40 hi0 hz0 hz1 hz2 rfl (by decide) v ((r.take i).map (· * K)).length (((r.take i).map (· * K)).flatMap inE) rfl (hR.out.later (show G wr _ by (repeat' (first | (with_reducible exact G.refl _) | (with_reducible assumption) | (with_reducible refine G.drewN ?_ _) | (with_reducible refine G.drew ?_) | (with_reducible refine G.alloc ?_ _) | (with_reducible refine G.setCell ?_ (by first | (with_reducible exact Nat.le_refl _) | (simp; done) | (simp; omega) | omega) _) | (with_reducible refine G.trans ?_ (by assumption)))))) ⟨wr.heap.size, 0, none⟩ 1 1 [.int .i64 (x * K)] rfl rfl (new_add _ _ [.int .i64 (x * K)] _ (by simp [go_sem])) (by simp [Value.oneCell']) (by unfold maxLen; rw [HLT.out]; have := HM2.out; omega) (by rw [HLT.out]; have := HM2.out; omega) (by have := gr.size; simp [go_sem]; omega) ?_; intro v' w7 hown' hgrow _)
                have RN := Lib.hid (Row.more (enc := inE) (M := (r.take i).map (· * K)) (x := x * K) hown')
                have gN : G w1 w7 := Below.grown (B := w1.heap.size) (show G w1 _ from gr.trans (by (repeat' (first | (with_reducible exact G.refl _) | (with_reducible assumption) | (with_reducible refine G.drewN ?_ _) | (with_reducible refine G.drew ?_) | (with_reducible refine G.alloc ?_ _) | (with_reducible refine G.setCell ?_ (by first | (with_reducible exact Nat.le_refl _) | (simp; done) | (simp; omega) | omega) _) | (with_reducible refine G.trans ?_ (by assumption)))))) hgrow (by have := gr.size; simp [go_sem]; omega) (fun k hk => hR.out.own k hk)
                go_roundg (m - (i + 1))
                case measure => have := HQ.out; omega
                case rel => exact ⟨i + 1, v', rfl, by first | rfl | go_num, rfl, by omega, Lib.hid (by rw [HTN.out, List.map_append]; exact RN.out), Lib.hid (fun z hz => by
                  rw [HTN.out] at hz
                  rcases List.mem_append.1 hz with h | h
                  · exact hX.out z h
                  · rw [List.mem_singleton.1 h]; exact HXK.out), gN⟩
          · have hii : i = m := by omega
            have hall : r.take i = r := List.take_of_length_le (by have := HM.out; omega)
            rw [hall] at hR hX
            obtain ⟨hs1, hs2⟩ := lensT_scale HK0.out HKK.out.1 hX.out
            obtain ⟨R2, hR2⟩ : ∃ z, Hid (r.map (· * K) = z) := ⟨_, rfl⟩
            have HM3 : Hid (R2.length = m) := Lib.hid (by rw [← hR2.out, List.length_map]; exact HM.out)
            rw [hR2.out] at hR hs1 hs2
            have HS1 := Lib.hid hs1
            have HS2 := Lib.hid hs2
            obtain ⟨a3, c3, rfl, hT3⟩ := hR.out.ints
            rw [HM3.out]
            have H3 := Lib.hid hT3
            clear hT3 hR hall hs1 hs2 hX
            have hji := hii.symm
            subst hji
            go_wp2_with fail
            refine (tLengths_any a a3 l R2 20 c _ c3 _ HN.out HM3.out HM2.out (H1.out.later (gwr.trans (by (repeat' (first | (with_reducible exact G.refl _) | (with_reducible assumption) | (with_reducible refine G.drewN ?_ _) | (with_reducible refine G.drew ?_) | (with_reducible refine G.alloc ?_ _) | (with_reducible refine G.setCell ?_ (by first | (with_reducible exact Nat.le_refl _) | (simp; done) | (simp; omega) | omega) _) | (with_reducible refine G.trans ?_ (by assumption))))))) HC.out (H3.out.later (by (repeat' (first | (with_reducible exact G.refl _) | (with_reducible assumption) | (with_reducible refine G.drewN ?_ _) | (with_reducible refine G.drew ?_) | (with_reducible refine G.alloc ?_ _) | (with_reducible refine G.setCell ?_ (by first | (with_reducible exact Nat.le_refl _) | (simp; done) | (simp; omega) | omega) _) | (with_reducible refine G.trans ?_ (by assumption))))))).mono ?_
            rintro e w5 ⟨v5, rfl, hR5, hG5⟩
            have g5 : G wr w5 := G.trans (by (repeat' (first | (with_reducible exact G.refl _) | (with_reducible refine G.drewN ?_ _) | (with_reducible refine G.drew ?_) | (with_reducible refine G.alloc ?_ _)))) hG5
            have hQ5 := hR5.q
            unfold LensQ at hQ5
            rw [if_pos HS1.out] at hQ5
            obtain ⟨pb, pd, rfl, hIB⟩ := hQ5
            rw [HS2.out] at hIB
            have HIB := Lib.hid hIB
            rw [HS1.out, HM3.out]
            clear hIB hR5
            go_wp2_with fail
            refine (known_any _).mono ?_
            rintro x w6 ⟨rfl, hG6⟩
            have g56 : G w5 w6 := G.trans (by (repeat' (first | (with_reducible exact G.refl _) | (with_reducible refine G.drewN ?_ _) | (with_reducible refine G.drew ?_) | (with_reducible refine G.alloc ?_ _)))) hG6
            have g6 : G w1 w6 := gr.trans (g5.trans g56)
            have HIA6 := Lib.hid (HIA.out.later g6)
            have HIB6 := Lib.hid (HIB.out.later g56)
            have HLL := Lib.hid (show (lens l 0 r).length = r.length from lens_len _ _ _)
            obtain ⟨M, hM⟩ : ∃ z, Hid (lens l 0 r = z) := ⟨_, rfl⟩
            rw [hM.out] at HLL HIA6 HIB6
            have HBD := Lib.hid (show ∀ x ∈ M, 0 ≤ x ∧ x ≤ 253671505920 by rw [← hM.out]; exact lens_bd (ckT_fit (lensT_ok HK0.out).1) r 0)
            have HM5 := HM2
            go_wp2_with fail
            go_loopg [14] r.length (fun q x wr2 => ∃ i : Nat, x = .int .i64 i ∧ q = r.length - i ∧ i ≤ r.length ∧ G w6 wr2)
            case atStart => exact ⟨0, rfl, by omega, by omega, by (repeat' (first | (with_reducible exact G.refl _) | (with_reducible assumption) | (with_reducible refine G.drewN ?_ _) | (with_reducible refine G.drew ?_) | (with_reducible refine G.alloc ?_ _) | (with_reducible refine G.setCell ?_ (by first | (with_reducible exact Nat.le_refl _) | (simp; done) | (simp; omega) | omega) _) | (with_reducible refine G.trans ?_ (by assumption))))⟩
            case round =>
              obtain ⟨j, rfl, hq2, hj, gr2⟩ := hrel
              have HQ2 := Lib.hid hq2
              clear hq2
              have Hm := HM.out
              by_cases hjn : j < r.length
              · obtain ⟨x, hx⟩ : ∃ z, M[j]? = some z := ⟨M[j]'(by have := HLL.out; omega), List.getElem?_eq_getElem (by have := HLL.out; omega)⟩
                have hxk : (M.map (· * K))[j]? = some (x * K) := by rw [List.getElem?_map, hx]; rfl
                rcases HIA6.out with hz | ⟨b7, o7, rfl, f7⟩
                · rw [hz] at hx; simp at hx
                rcases HIB6.out with hz | ⟨b8, o8, rfl, f8⟩
                · rw [hz] at hxk; simp at hxk
                have y0 := gr2.at (f7 j _ hx)
                have y1 := gr2.at (f8 j _ hxk)
                have hbx := HBD.out x (List.mem_of_getElem? hx)
                have k0 : 0 ≤ x * K := Int.mul_nonneg hbx.1 (by have := HKK.out; omega)
                have k1 : x * K ≤ 253671505920 * 16 := Int.mul_le_mul hbx.2 HKK.out.2 (by have := HKK.out; omega) (by decide)
                have q2 := IntWalk.i64_in (x * K) (by omega)
                have b1 : (0 : Int) ≤ (j : Int) := by omega
                have b2 : (j : Int) < (m : Int) := by omega
                have q1 := IntWalk.i64_in ((j : Int) + 1) (by have := HM5.out; omega)
                clear f7 f8 hx hxk hbx k0 k1 Hm
                go_wp2_with fail
                go_big_region
                all_goals
                  go_wp2_with fail
                  go_roundg (r.length - (j + 1))
                  case measure => have := HQ2.out; omega
                  case rel => exact ⟨j + 1, by go_num, rfl, by omega, by (repeat' (first | (with_reducible exact G.refl _) | (with_reducible assumption) | (with_reducible refine G.drewN ?_ _) | (with_reducible refine G.drew ?_) | (with_reducible refine G.alloc ?_ _) | (with_reducible refine G.setCell ?_ (by first | (with_reducible exact Nat.le_refl _) | (simp; done) | (simp; omega) | omega) _) | (with_reducible refine G.trans ?_ (by assumption))))⟩
              · have b2 : ¬ (j : Int) < (m : Int) := by omega
                clear Hm
                go_wp2_with fail
                go_ret
                exact ⟨by first | rfl | simp, g1.trans (g6.trans (gr2.trans (by (repeat' (first | (with_reducible exact G.refl _) | (with_reducible assumption) | (with_reducible refine G.drewN ?_ _) | (with_reducible refine G.drew ?_) | (with_reducible refine G.alloc ?_ _) | (with_reducible refine G.setCell ?_ (by first | (with_reducible exact Nat.le_refl _) | (simp; done) | (simp; omega) | omega) _) | (with_reducible refine G.trans ?_ (by assumption)))))))⟩
    · have H1 := Lib.hid (h1.take 20)
      have HC := Lib.hid ((cb_of hwf).take 20)
      have HN := Lib.hid (show (l0.take 20).length = 20 by rw [List.length_take]; omega)
      have HK := Lib.hid (show 20 ≤ 20 from Nat.le_refl _)
      have m3 : (20 : Int) ≤ (c : Int) := by omega
      have m4 : 20 ≤ c := by omega
      generalize l0.take 20 = l at *
      clear h1 hwf hc
      have H2 := Lib.hid (h2.take 130)
      have HM := Lib.hid (show (r0.take 130).length = 130 by rw [List.length_take]; omega)
      have HM2 := Lib.hid (show 130 ≤ 1000 by omega)
      have u3 : (130 : Int) ≤ (d : Int) := by omega
      have u4 : 130 ≤ d := by omega
      generalize r0.take 130 = r at *
      clear h2 hd
      obtain ⟨J, hJ⟩ : ∃ z : Int, Hid (y % 16 = z) := ⟨_, rfl⟩
      have J0 : 0 ≤ J := by rw [← hJ.out]; exact Int.emod_nonneg y (by decide)
      have J1 : J ≤ 15 := by have := Int.emod_lt_of_pos y (show (0 : Int) < 16 by decide); rw [hJ.out] at this; omega
      have j1 : y.tmod 16 = J := by rw [Int.tmod_eq_emod_of_nonneg hy0, hJ.out]
      have j2 := IntWalk.u8_in J (by omega)
      have j3 := IntWalk.i64_in J (by omega)
      have j4 := IntWalk.i64_in (1 + J) (by omega)
      have j5 : wrap64 (1 + J) = 1 + J := IntWalk.wrap64_in (1 + J) (by omega)
      obtain ⟨K, hKJ⟩ : ∃ z : Int, Hid (1 + J = z) := ⟨_, rfl⟩
      have KK : 1 ≤ K ∧ K ≤ 16 := by rw [← hKJ.out]; omega
      obtain ⟨Q, hQ⟩ : ∃ z : Int, Hid (7741440 / K = z) := ⟨_, rfl⟩
      have p1 : (7741440 : Int).tdiv K = Q := by rw [Int.tdiv_eq_ediv_of_nonneg (by decide), hQ.out]
      have Q0 : 0 ≤ Q := by rw [← hQ.out]; exact Int.ediv_nonneg (by decide) (by omega)
      have Q1 : Q ≤ 7741440 := by rw [← hQ.out]; exact Int.ediv_le_self _ (by decide)
      have p2 := IntWalk.i64_in Q (by omega)
      have p3 : (K == 0) = false := beq_false_of_ne (by omega)
      have p4 : ¬ K = 0 := by omega
      have p5 : (0 : Int) < K := by omega
      have HQK := Lib.hid (show ∀ x, x ≤ Q → x * K ≤ 7741440 from fun x h => by
        have h1 : x * K ≤ Q * K := Int.mul_le_mul_of_nonneg_right h (by omega)
        have h2 : Q * K ≤ 7741440 := by rw [← hQ.out]; exact Int.ediv_mul_le _ (by omega)
        omega)
      have HKK := Lib.hid KK
      clear J0 J1 KK Q0 Q1
      go_enter Try.func8, Try.ntmps8
      go_wp2_with fail
      go_big_region
      all_goals
        go_wp2_with fail
        rw [hKJ.out]
        refine (tLengths_any a b l r 20 c 130 d _ HN.out HM.out HM2.out (H1.out.later (by (repeat' (first | (with_reducible exact G.refl _) | (with_reducible assumption) | (with_reducible refine G.drewN ?_ _) | (with_reducible refine G.drew ?_) | (with_reducible refine G.alloc ?_ _) | (with_reducible refine G.setCell ?_ (by first | (with_reducible exact Nat.le_refl _) | (simp; done) | (simp; omega) | omega) _) | (with_reducible refine G.trans ?_ (by assumption)))))) HC.out (H2.out.later (by (repeat' (first | (with_reducible exact G.refl _) | (with_reducible assumption) | (with_reducible refine G.drewN ?_ _) | (with_reducible refine G.drew ?_) | (with_reducible refine G.alloc ?_ _) | (with_reducible refine G.setCell ?_ (by first | (with_reducible exact Nat.le_refl _) | (simp; done) | (simp; omega) | omega) _) | (with_reducible refine G.trans ?_ (by assumption))))))).mono ?_
        rintro e w1 ⟨v, rfl, hR, hG⟩
        have g1 : G w w1 := G.trans (by (repeat' (first | (with_reducible exact G.refl _) | (with_reducible refine G.drewN ?_ _) | (with_reducible refine G.drew ?_) | (with_reducible refine G.alloc ?_ _)))) hG
        have HQ1 := Lib.hid hR.q
        clear hR
        by_cases hk : lensT l r = 0
        rotate_left
        · obtain ⟨E, hE⟩ : ∃ z : Int, Hid (lensT l r = z) := ⟨_, rfl⟩
          have hA := HQ1.out
          unfold LensQ at hA
          rw [if_neg hk] at hA
          subst hA
          rw [hE.out] at hk ⊢
          have e3 : (E == 0) = false := beq_false_of_ne hk
          have e4 : (E != 0) = true := by simp [bne, e3]
          clear hk HQ1
          go_wp2_with fail
          go_loopg [10, 11] 0 (fun q x y wr => x = .slice none 0 0 ∧ y = .int .i64 0 ∧ q = 0 ∧ G w1 wr)
          case atStart => exact ⟨rfl, rfl, rfl, by (repeat' (first | (with_reducible exact G.refl _) | (with_reducible assumption) | (with_reducible refine G.drewN ?_ _) | (with_reducible refine G.drew ?_) | (with_reducible refine G.alloc ?_ _) | (with_reducible refine G.setCell ?_ (by first | (with_reducible exact Nat.le_refl _) | (simp; done) | (simp; omega) | omega) _) | (with_reducible refine G.trans ?_ (by assumption))))⟩
          case round =>
            obtain ⟨rfl, rfl, rfl, gr⟩ := hrel
            by_cases m0 : (0 : Int) < (130 : Int)
            · go_wp2_with fail
              refine (known_any _).mono ?_
              rintro x w6 ⟨rfl, hG6⟩
              have g6 : G w1 w6 := gr.trans (G.trans (by (repeat' (first | (with_reducible exact G.refl _) | (with_reducible refine G.drewN ?_ _) | (with_reducible refine G.drew ?_) | (with_reducible refine G.alloc ?_ _)))) hG6)
              go_wp2_with fail
              go_ret
              exact ⟨by first | rfl | simp, g1.trans (g6.trans (by (repeat' (first | (with_reducible exact G.refl _) | (with_reducible assumption) | (with_reducible refine G.drewN ?_ _) | (with_reducible refine G.drew ?_) | (with_reducible refine G.alloc ?_ _) | (with_reducible refine G.setCell ?_ (by first | (with_reducible exact Nat.le_refl _) | (simp; done) | (simp; omega) | omega) _) | (with_reducible refine G.trans ?_ (by assumption))))))⟩
            · first
                | (exfalso; omega)
                | (go_wp2_with fail
                   refine (known_any _).mono ?_
                   rintro x w6 ⟨rfl, hG6⟩
                   have g6 : G w1 w6 := gr.trans (G.trans (by (repeat' (first | (with_reducible exact G.refl _) | (with_reducible refine G.drewN ?_ _) | (with_reducible refine G.drew ?_) | (with_reducible refine G.alloc ?_ _)))) hG6)
                   go_wp2_with fail
                   go_ret
                   exact ⟨by first | rfl | simp, g1.trans (g6.trans (by (repeat' (first | (with_reducible exact G.refl _) | (with_reducible assumption) | (with_reducible refine G.drewN ?_ _) | (with_reducible refine G.drew ?_) | (with_reducible refine G.alloc ?_ _) | (with_reducible refine G.setCell ?_ (by first | (with_reducible exact Nat.le_refl _) | (simp; done) | (simp; omega) | omega) _) | (with_reducible refine G.trans ?_ (by assumption))))))⟩)
        have HK0 := Lib.hid hk
        have hA := HQ1.out
        unfold LensQ at hA
        rw [if_pos hk] at hA
        obtain ⟨pa, pc, rfl, hIA⟩ := hA
        have HIA := Lib.hid hIA
        have HIN := Lib.hid (fun i x (h : r[i]? = some x) => lensT_in hk h)
        rw [hk, HM.out]
        clear hIA hk HQ1
        obtain ⟨i0, hi0, hz0, hz1, hz2⟩ := info_parts' iInfo
        go_wp2_with fail
        go_loopg [10, 11] 130 (fun q y z wr => ∃ (i : Nat) (v : Value), v = y ∧ z = .int .i64 i ∧ q = 130 - i ∧ i ≤ 130 ∧ Hid (Row inE 3 1 w1.heap.size wr v ((r.take i).map (· * K))) ∧ Hid (∀ x ∈ r.take i, x * K ≤ 7741440) ∧ G w1 wr)
        case atStart => exact ⟨0, _, rfl, rfl, by omega, by omega, Lib.hid (by simpa using Row.nil (enc := inE) w1), Lib.hid (by simp), by (repeat' (first | (with_reducible exact G.refl _) | (with_reducible assumption) | (with_reducible refine G.drewN ?_ _) | (with_reducible refine G.drew ?_) | (with_reducible refine G.alloc ?_ _) | (with_reducible refine G.setCell ?_ (by first | (with_reducible exact Nat.le_refl _) | (simp; done) | (simp; omega) | omega) _) | (with_reducible refine G.trans ?_ (by assumption))))⟩
        case round =>
          obtain ⟨i, v, rfl, rfl, hq, hi', hR, hX, gr⟩ := hrel
          have gwr : G w wr := g1.trans gr
          have HQ := Lib.hid hq
          clear hq
          by_cases hin : i < 130
          · obtain ⟨x, hx⟩ : ∃ z, r[i]? = some z := ⟨r[i]'(by have := HM.out; omega), List.getElem?_eq_getElem (by have := HM.out; omega)⟩
            rcases H2.out with hz | ⟨b0, of, rfl, fc⟩
            · rw [hz] at hx; simp at hx
            have x0 := gwr.at (fc i _ hx)
            have HX := Lib.hid hx
            have HXI := Lib.hid (HIN.out i x hx)
            have HTN := Lib.hid (show r.take (i + 1) = r.take i ++ [x] by rw [List.take_add_one, hx]; rfl)
            have HLT := Lib.hid (show ((r.take i).map (· * K)).length = i by rw [List.length_map, List.length_take]; have := HM.out; omega)
            have b1 : (0 : Int) ≤ (i : Int) := by omega
            have b2 : (i : Int) < (130 : Int) := by omega
            have q1 := IntWalk.i64_in ((i : Int) + 1) (by have := HM2.out; omega)
            clear fc hx
            by_cases hxq : Q < x
            · go_wp2_with fail
              go_big_region
              all_goals
                go_wp2_with fail
                refine (known_any _).mono ?_
                rintro x w6 ⟨rfl, hG6⟩
                have g6 : G w1 w6 := gr.trans (G.trans (by (repeat' (first | (with_reducible exact G.refl _) | (with_reducible refine G.drewN ?_ _) | (with_reducible refine G.drew ?_) | (with_reducible refine G.alloc ?_ _)))) hG6)
                go_wp2_with fail
                go_ret
                exact ⟨by first | rfl | simp, g1.trans (g6.trans (by (repeat' (first | (with_reducible exact G.refl _) | (with_reducible assumption) | (with_reducible refine G.drewN ?_ _) | (with_reducible refine G.drew ?_) | (with_reducible refine G.alloc ?_ _) | (with_reducible refine G.setCell ?_ (by first | (with_reducible exact Nat.le_refl _) | (simp; done) | (simp; omega) | omega) _) | (with_reducible refine G.trans ?_ (by assumption))))))⟩
            · have HXK := Lib.hid (HQK.out x (by omega))
              have q2 := IntWalk.i64_in (x * K) (by have := HXK.out; have : 0 ≤ x * K := Int.mul_nonneg HXI.out.1 (by have := HKK.out; omega); omega)
              go_wp2_with fail
              go_big_region
              all_goals
                go_wp2_with (at_builtin; refine wpList_append_own _ rfl _ _ 40 rfl w1.heap.size 3 i0 (.int .i64 0) 1 8 Try.underlying40 hi0 hz0 hz1 hz2 rfl (by decide) v ((r.take i).map (· * K)).length (((r.take i).map (· * K)).flatMap inE) rfl (hR.out.later (show G wr _ by (repeat' (first | (with_reducible exact G.refl _) | (with_reducible assumption) | (with_reducible refine G.drewN ?_ _) | (with_reducible refine G.drew ?_) | (with_reducible refine G.alloc ?_ _) | (with_reducible refine G.setCell ?_ (by first | (with_reducible exact Nat.le_refl _) | (simp; done) | (simp; omega) | omega) _) | (with_reducible refine G.trans ?_ (by assumption)))))) ⟨wr.heap.size, 0, none⟩ 1 1 [.int .i64 (x * K)] rfl rfl (new_add _ _ [.int .i64 (x * K)] _ (by simp [go_sem])) (by simp [Value.oneCell']) (by unfold maxLen; rw [HLT.out]; have := HM2.out; omega) (by rw [HLT.out]; have := HM2.out; omega) (by have := gr.size; simp [go_sem]; omega) ?_; intro v' w7 hown' hgrow _)
                have RN := Lib.hid (Row.more (enc := inE) (M := (r.take i).map (· * K)) (x := x * K) hown')
                have gN : G w1 w7 := Below.grown (B := w1.heap.size) (show G w1 _ from gr.trans (by (repeat' (first | (with_reducible exact G.refl _) | (with_reducible assumption) | (with_reducible refine G.drewN ?_ _) | (with_reducible refine G.drew ?_) | (with_reducible refine G.alloc ?_ _) | (with_reducible refine G.setCell ?_ (by first | (with_reducible exact Nat.le_refl _) | (simp; done) | (simp; omega) | omega) _) | (with_reducible refine G.trans ?_ (by assumption)))))) hgrow (by have := gr.size; simp [go_sem]; omega) (fun k hk => hR.out.own k hk)
                go_roundg (130 - (i + 1))
                case measure => have := HQ.out; omega
                case rel => exact ⟨i + 1, v', rfl, by first | rfl | go_num, rfl, by omega, Lib.hid (by rw [HTN.out, List.map_append]; exact RN.out), Lib.hid (fun z hz => by
                  rw [HTN.out] at hz
                  rcases List.mem_append.1 hz with h | h
                  · exact hX.out z h
                  · rw [List.mem_singleton.1 h]; exact HXK.out), gN⟩
          · have hii : i = 130 := by omega
            have hall : r.take i = r := List.take_of_length_le (by have := HM.out; omega)
            rw [hall] at hR hX
            obtain ⟨hs1, hs2⟩ := lensT_scale HK0.out HKK.out.1 hX.out
            obtain ⟨R2, hR2⟩ : ∃ z, Hid (r.map (· * K) = z) := ⟨_, rfl⟩
            have HM3 : Hid (R2.length = 130) := Lib.hid (by rw [← hR2.out, List.length_map]; exact HM.out)
            rw [hR2.out] at hR hs1 hs2
            have HS1 := Lib.hid hs1
            have HS2 := Lib.hid hs2
            obtain ⟨a3, c3, rfl, hT3⟩ := hR.out.ints
            rw [HM3.out]
            have H3 := Lib.hid hT3
            clear hT3 hR hall hs1 hs2 hX
            have hji := hii.symm
            subst hji
            go_wp2_with fail
            refine (tLengths_any a a3 l R2 20 c _ c3 _ HN.out HM3.out HM2.out (H1.out.later (gwr.trans (by (repeat' (first | (with_reducible exact G.refl _) | (with_reducible assumption) | (with_reducible refine G.drewN ?_ _) | (with_reducible refine G.drew ?_) | (with_reducible refine G.alloc ?_ _) | (with_reducible refine G.setCell ?_ (by first | (with_reducible exact Nat.le_refl _) | (simp; done) | (simp; omega) | omega) _) | (with_reducible refine G.trans ?_ (by assumption))))))) HC.out (H3.out.later (by (repeat' (first | (with_reducible exact G.refl _) | (with_reducible assumption) | (with_reducible refine G.drewN ?_ _) | (with_reducible refine G.drew ?_) | (with_reducible refine G.alloc ?_ _) | (with_reducible refine G.setCell ?_ (by first | (with_reducible exact Nat.le_refl _) | (simp; done) | (simp; omega) | omega) _) | (with_reducible refine G.trans ?_ (by assumption))))))).mono ?_
            rintro e w5 ⟨v5, rfl, hR5, hG5⟩
            have g5 : G wr w5 := G.trans (by (repeat' (first | (with_reducible exact G.refl _) | (with_reducible refine G.drewN ?_ _) | (with_reducible refine G.drew ?_) | (with_reducible refine G.alloc ?_ _)))) hG5
            have hQ5 := hR5.q
            unfold LensQ at hQ5
            rw [if_pos HS1.out] at hQ5
            obtain ⟨pb, pd, rfl, hIB⟩ := hQ5
            rw [HS2.out] at hIB
            have HIB := Lib.hid hIB
            rw [HS1.out, HM3.out]
            clear hIB hR5
            go_wp2_with fail
            refine (known_any _).mono ?_
            rintro x w6 ⟨rfl, hG6⟩
            have g56 : G w5 w6 := G.trans (by (repeat' (first | (with_reducible exact G.refl _) | (with_reducible refine G.drewN ?_ _) | (with_reducible refine G.drew ?_) | (with_reducible refine G.alloc ?_ _)))) hG6
            have g6 : G w1 w6 := gr.trans (g5.trans g56)
            have HIA6 := Lib.hid (HIA.out.later g6)
            have HIB6 := Lib.hid (HIB.out.later g56)
            have HLL := Lib.hid (show (lens l 0 r).length = r.length from lens_len _ _ _)
            obtain ⟨M, hM⟩ : ∃ z, Hid (lens l 0 r = z) := ⟨_, rfl⟩
            rw [hM.out] at HLL HIA6 HIB6
            have HBD := Lib.hid (show ∀ x ∈ M, 0 ≤ x ∧ x ≤ 253671505920 by rw [← hM.out]; exact lens_bd (ckT_fit (lensT_ok HK0.out).1) r 0)
            have HM5 := HM2
            go_wp2_with fail
            go_loopg [14] r.length (fun q x wr2 => ∃ i : Nat, x = .int .i64 i ∧ q = r.length - i ∧ i ≤ r.length ∧ G w6 wr2)
            case atStart => exact ⟨0, rfl, by omega, by omega, by (repeat' (first | (with_reducible exact G.refl _) | (with_reducible assumption) | (with_reducible refine G.drewN ?_ _) | (with_reducible refine G.drew ?_) | (with_reducible refine G.alloc ?_ _) | (with_reducible refine G.setCell ?_ (by first | (with_reducible exact Nat.le_refl _) | (simp; done) | (simp; omega) | omega) _) | (with_reducible refine G.trans ?_ (by assumption))))⟩
            case round =>
              obtain ⟨j, rfl, hq2, hj, gr2⟩ := hrel
              have HQ2 := Lib.hid hq2
              clear hq2
              have H130 := HM.out
              by_cases hjn : j < r.length
              · obtain ⟨x, hx⟩ : ∃ z, M[j]? = some z := ⟨M[j]'(by have := HLL.out; omega), List.getElem?_eq_getElem (by have := HLL.out; omega)⟩
                have hxk : (M.map (· * K))[j]? = some (x * K) := by rw [List.getElem?_map, hx]; rfl
                rcases HIA6.out with hz | ⟨b7, o7, rfl, f7⟩
                · rw [hz] at hx; simp at hx
                rcases HIB6.out with hz | ⟨b8, o8, rfl, f8⟩
                · rw [hz] at hxk; simp at hxk
                have y0 := gr2.at (f7 j _ hx)
                have y1 := gr2.at (f8 j _ hxk)
                have hbx := HBD.out x (List.mem_of_getElem? hx)
                have k0 : 0 ≤ x * K := Int.mul_nonneg hbx.1 (by have := HKK.out; omega)
                have k1 : x * K ≤ 253671505920 * 16 := Int.mul_le_mul hbx.2 HKK.out.2 (by have := HKK.out; omega) (by decide)
                have q2 := IntWalk.i64_in (x * K) (by omega)
                have b1 : (0 : Int) ≤ (j : Int) := by omega
                have b2 : (j : Int) < (130 : Int) := by omega
                have q1 := IntWalk.i64_in ((j : Int) + 1) (by have := HM5.out; omega)
                clear f7 f8 hx hxk hbx k0 k1 H130
                go_wp2_with fail
                go_big_region
                all_goals
                  go_wp2_with fail
                  go_roundg (r.length - (j + 1))
                  case measure => have := HQ2.out; omega
                  case rel => exact ⟨j + 1, by go_num, rfl, by omega, by (repeat' (first | (with_reducible exact G.refl _) | (with_reducible assumption) | (with_reducible refine G.drewN ?_ _) | (with_reducible refine G.drew ?_) | (with_reducible refine G.alloc ?_ _) | (with_reducible refine G.setCell ?_ (by first | (with_reducible exact Nat.le_refl _) | (simp; done) | (simp; omega) | omega) _) | (with_reducible refine G.trans ?_ (by assumption))))⟩
              · have b2 : ¬ (j : Int) < (130 : Int) := by omega
                clear H130
                go_wp2_with fail
                go_ret
                exact ⟨by first | rfl | simp, g1.trans (g6.trans (gr2.trans (by (repeat' (first | (with_reducible exact G.refl _) | (with_reducible assumption) | (with_reducible refine G.drewN ?_ _) | (with_reducible refine G.drew ?_) | (with_reducible refine G.alloc ?_ _) | (with_reducible refine G.setCell ?_ (by first | (with_reducible exact Nat.le_refl _) | (simp; done) | (simp; omega) | omega) _) | (with_reducible refine G.trans ?_ (by assumption)))))))⟩

/-! ### the row and the card -/
open Go.ChangeShapes Go.WideShapes Go.ChangeAt Go.RowKit
set_option maxRecDepth 100000 in
theorem tupletScales_lifted (os : Os) (started : os.Started) (H : Type) (enc : TypeId × Value → H) :
    ReturnsInHanded {} Try.checked os 8 .any (Rows.tupletScalesSpec.pre6 enc Try.prog Try.f8 Rows.tupletScalesRow.domain false)
      (Rows.tupletScalesSpec.post enc Try.prog Try.f8 false true false false) := by
  refine returnsInHanded_of_change (C := Try.checked) own started (by kernel_rfl) Try.func8
    (ChangeSpec.witness6 (enc := enc) (C := Try.checked) false ⟨#[], #[.slice none 0 0, .slice none 0 0, .int .u8 0], []⟩ 8 (by kernel_rfl) (by kernel_rfl) (by kernel_rfl) (by kernel_rfl)) ?_
  intro W base args ds gs before hval0 hW _ _
  have hval : ∀ (j : Nat) t v, Try.f8.params[j]? = some t → args[j]? = some v → Value.okWide Try.prog W .any base t v := hval0
  have hW' := hW
  obtain ⟨p, q, hA0, hV, rfl, hfz, hnd⟩ := hW
  have hA : DataW.TrodAll enc Try.prog W 0 (fun _ => true) true Try.f8.params.toList args.toList ds p := hA0
  rw [Try.params8] at hA hval
  obtain ⟨v0, vs0, d0, ds0, p0, q0, hargs, rfl, rfl, h0, r0⟩ := trodAll_cons hA
  obtain ⟨v1, vs1, d1, ds1, p1, q1, rfl, rfl, rfl, h1, r1⟩ := trodAll_cons r0
  obtain ⟨v2, vs2, d2, ds2, p2, q2, rfl, rfl, rfl, h2, r2⟩ := trodAll_cons r1
  obtain ⟨rfl, rfl, rfl⟩ := trodAll_nil r2
  obtain rfl : args = #[v0, v1, v2] := by cases args; simp_all
  obtain ⟨rfl, rfl⟩ := trodVars_none hV
  have keep0 := h0
  obtain ⟨a0, cap0, l0, rfl, lc0, mc0, la0, wf0, lz0⟩ := open_tusArg (hval 0 22 v0 rfl rfl) h0
  have keep1 := h1
  obtain ⟨a1, cap1, l1, rfl, lc1, mc1, la1, wf1, lz1⟩ := open_intsArg (hval 1 40 v1 rfl rfl) h1
  obtain ⟨a2, rfl, rfl, rfl, w2⟩ := open_int Try.underlying5 (hval 2 5 v2 rfl rfl) h2
  obtain ⟨bl2, bh2⟩ := bounds_u8 w2
  clear hA0 hval0
  simp only [List.append_nil] at hW'
  have hlt0 : ∀ x ∈ p0, x.block < W.heap.size := fun x hx => by have := hW'.lt x (by simp [hx]); simpa using this
  have hlt1 : ∀ x ∈ p1, x.block < W.heap.size := fun x hx => by have := hW'.lt x (by simp [hx]); simpa using this
  refine (scales_walk a0 l0 cap0 a1 l1 cap1 a2 W lc0 mc0 la0 lz0 wf0 lc1 mc1 la1 lz1 bl2 bh2  ).mono fun e W' ⟨he, hg⟩ => ?_
  subst he
  exact ⟨_, rfl, _, _, _, [], (p0 ++ (p1 ++ ([] ++ []))), [], hW', (trodAll_cons_mk (shut_bool Try.underlying4 _) trodAll_mk0), (trodAll_cons_mk (Below.trod (by kernel_rfl) (by kernel_rfl) (of_decide_eq_true (by kernel_rfl)) keep0 hg hlt0) (trodAll_cons_mk (Below.trod (by kernel_rfl) (by kernel_rfl) (of_decide_eq_true (by kernel_rfl)) keep1 hg hlt1) (trodAll_cons_mk (shut_int Try.underlying5 w2) trodAll_mk0))), rfl, Below.frame hg _, fun h => by cases h⟩

theorem tupletScales_holds : Rows.TupletScalesSaid :=
  OpenClaim.holds_of_wide 8 Try.f8 rfl rfl rfl rfl rfl rfl rfl ⟨rfl, rfl, rfl, rfl, rfl⟩ rfl rfl rfl rfl rfl (by kernel_rfl) Try.func8 (by kernel_rfl)
    (of_decide_eq_true (by kernel_rfl)) (by unfold Func.isWrapper; first | (rw [if_pos (by decide +kernel)]; kernel_rfl) | (rw [if_neg (by decide +kernel)]; exact ⟨rfl, rfl⟩))
    (fun os started H enc _ => tupletScales_lifted os started H enc)

#print axioms tupletScales_holds
end Go.Proofs.Ytabaiklagobimaa
