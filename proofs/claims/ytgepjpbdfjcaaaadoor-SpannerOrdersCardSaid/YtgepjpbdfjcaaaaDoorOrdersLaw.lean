/- SpannerOrders: for any up to 12 spans in any order, whether Check accepts them does not depend on the order; the arguments read as before; no further condition than the laid table. -/
import Derived.Test.YtgepjpbdfjcaaaaDoorRows
import Derived.Test.YtgepjpbdfjcaaaaDoorS22
import Derived.Test.YtgepjpbdfjcaaaaDoorKnown
import Derived.Test.YtgepjpbdfjcaaaaDoorS10
import Derived.Test.YtgepjpbdfjcaaaaDoorS13
import Derived.Test.YtgepjpbdfjcaaaaDoorLaid
namespace Go.Proofs.YtgepjpbdfjcaaaaDoor
open Go.RowKit Go.ChangeShapes Go.WideShapes
attribute [local go_sem] World.cell?_alloc_some

set_option maxRecDepth 100000 in
set_option maxHeartbeats 25600000 in
theorem orders_loop (a b : Option Addr) (l : List Sp) (od : List Int) (n c m d : Nat) (w : World) (hn : l.length = n) (hl : n ≤ 12) (h1 : SpsAt w a l) (hm : od.length = m) (h2 : U8sAt w b od) (hwo : ∀ z ∈ od, (Lit.int .u8 z).wf = true) (hmx : m ≤ maxLen) (hT : Tab w) :
    Calls Tryd.prog 6 #[.slice a n c, .slice b m d] w fun e w' => e = .returned (.bool true) ∧ G w w' := by
  have HT := Lib.hid hT
  have H1 := Lib.hid h1
  have H2 := Lib.hid h2
  have HN := Lib.hid hn
  have HL := Lib.hid hl
  have HM := Lib.hid hm
  have HW := Lib.hid hwo
  have HMX := Lib.hid hmx
  have m0 : (n : Int) ≤ 12 := by omega
  have m00 : ¬ (12 < (n : Int)) := by omega
  clear hT h1 h2 hn hl hm hwo hmx
  go_enter Tryd.func6, Tryd.ntmps6
  go_wp2_with fail
  refine (known_any _ (HT.out.later (by (repeat' (first | (with_reducible exact G.refl _) | (with_reducible assumption) | (with_reducible refine G.drewN ?_ _) | (with_reducible refine G.drew ?_) | (with_reducible refine G.alloc ?_ _) | (with_reducible refine G.setCell ?_ (by first | (with_reducible exact Nat.le_refl _) | (simp; done) | (simp; omega) | omega) _) | (with_reducible refine G.trans ?_ (by assumption))))))).mono ?_
  rintro e w1 ⟨rfl, hG1⟩
  have g1 : G w w1 := G.trans (by (repeat' (first | (with_reducible exact G.refl _) | (with_reducible refine G.drewN ?_ _) | (with_reducible refine G.drew ?_) | (with_reducible refine G.alloc ?_ _)))) hG1
  go_wp2_with fail
  refine (list_any a l n c _ HN.out (by have := HL.out; omega) (H1.out.later g1)).mono ?_
  rintro e w2 ⟨v, rfl, hR, hG2⟩
  have g2 : G w w2 := g1.trans (G.trans (by (repeat' (first | (with_reducible exact G.refl _) | (with_reducible refine G.drewN ?_ _) | (with_reducible refine G.drew ?_) | (with_reducible refine G.alloc ?_ _)))) hG2)
  obtain ⟨a2, c2, rfl, hc2, hS⟩ := hR.swa
  rw [HN.out] at hc2 ⊢
  have HS := Lib.hid (show SWA w.heap.size w2 a2 l by
    rcases hS with h | ⟨g, h1, h2, h⟩
    · exact .inl h
    · exact .inr ⟨g, h1, Nat.le_trans g1.size h2, h⟩)
  have HC2 := Lib.hid hc2
  clear hR hS hc2
  go_wp2_with fail
  go_loopg [6] n (fun q k wr => ∃ (i : Nat) (M : List Sp), k = .int .i64 i ∧ q = n - i ∧ i ≤ n ∧ Hid (M.Perm l) ∧ Hid (SWA w.heap.size wr a2 M) ∧ G w wr)
  case atStart => exact ⟨0, l, rfl, rfl, by omega, Lib.hid (List.Perm.refl _), HS, by (repeat' (first | (with_reducible exact G.refl _) | (with_reducible assumption) | (with_reducible refine G.drewN ?_ _) | (with_reducible refine G.drew ?_) | (with_reducible refine G.alloc ?_ _) | (with_reducible refine G.setCell ?_ (by first | (with_reducible exact Nat.le_refl _) | (simp; done) | (simp; omega) | omega) _) | (with_reducible refine G.trans ?_ (by assumption))))⟩
  case round =>
    obtain ⟨i, M, rfl, hq, hi, hP, hSW, gr⟩ := hrel
    have HQ := Lib.hid hq
    clear hq
    by_cases hin : i < n ∧ i < m
    · obtain ⟨hin1, hin2⟩ := hin
      have HI := Lib.hid (And.intro hin1 hin2)
      have HML := Lib.hid (show M.length = n by rw [hP.out.length_eq, HN.out])
      obtain ⟨z, hz⟩ : ∃ z, od[i]? = some z := ⟨od[i]'(by rw [HM.out]; exact hin2), List.getElem?_eq_getElem (by rw [HM.out]; exact hin2)⟩
      obtain ⟨zl, zh⟩ := bounds_u8 (HW.out z (List.mem_of_getElem? hz))
      obtain ⟨ov, hov⟩ : ∃ q : Nat, z = (q : Int) := ⟨z.toNat, by omega⟩
      subst hov
      have hov2 : ov ≤ 255 := by omega
      obtain ⟨kk, hkk⟩ : ∃ q : Nat, q = ov % n := ⟨_, rfl⟩
      have hkl : kk < n := by rw [hkk]; exact Nat.mod_lt _ (by omega)
      rcases H2.out with hz0 | ⟨bb, ob, rfl, fb⟩
      · rw [hz0] at hz; simp at hz
      have o0 := gr.at (fb i _ hz)
      obtain ⟨x, hx⟩ : ∃ q, M[i]? = some q := ⟨M[i]'(by rw [HML.out]; exact hin1), List.getElem?_eq_getElem (by rw [HML.out]; exact hin1)⟩
      obtain ⟨y, hy⟩ : ∃ q, M[kk]? = some q := ⟨M[kk]'(by rw [HML.out]; exact hkl), List.getElem?_eq_getElem (by rw [HML.out]; exact hkl)⟩
      rcases hSW.out with hz0 | ⟨g, rfl, hgb, hW⟩
      · rw [hz0] at hx; simp at hx
      have HX := Lib.hid hx
      have HY := Lib.hid hy
      have HWW := Lib.hid hW
      have HGB := Lib.hid hgb
      obtain ⟨x0, u0⟩ := hW i _ HX.out 0 _ rfl
      obtain ⟨x1, u1⟩ := hW i _ HX.out 1 _ rfl
      obtain ⟨x2, u2⟩ := hW i _ HX.out 2 _ rfl
      obtain ⟨x3, u3⟩ := hW i _ HX.out 3 _ rfl
      obtain ⟨x4, u4⟩ := hW i _ HX.out 4 _ rfl
      obtain ⟨x5, u5⟩ := hW i _ HX.out 5 _ rfl
      obtain ⟨x6, u6⟩ := hW i _ HX.out 6 _ rfl
      obtain ⟨x7, u7⟩ := hW i _ HX.out 7 _ rfl
      obtain ⟨x8, u8⟩ := hW i _ HX.out 8 _ rfl
      obtain ⟨y0, v0⟩ := hW kk _ HY.out 0 _ rfl
      obtain ⟨y1, v1⟩ := hW kk _ HY.out 1 _ rfl
      obtain ⟨y2, v2⟩ := hW kk _ HY.out 2 _ rfl
      obtain ⟨y3, v3⟩ := hW kk _ HY.out 3 _ rfl
      obtain ⟨y4, v4⟩ := hW kk _ HY.out 4 _ rfl
      obtain ⟨y5, v5⟩ := hW kk _ HY.out 5 _ rfl
      obtain ⟨y6, v6⟩ := hW kk _ HY.out 6 _ rfl
      obtain ⟨y7, v7⟩ := hW kk _ HY.out 7 _ rfl
      obtain ⟨y8, v8⟩ := hW kk _ HY.out 8 _ rfl
      rw [Nat.add_zero (i * 9)] at x0 u0
      rw [Nat.add_zero (kk * 9)] at y0 v0
      have b1 : (0 : Int) ≤ (i : Int) := by omega
      have b2 : (i : Int) < (n : Int) := by omega
      have b3 : (i : Int) < (m : Int) := by omega
      have b4 : (0 : Int) ≤ (kk : Int) := by omega
      have b5 : (kk : Int) < (n : Int) := by omega
      have b6 : (0 : Int) ≤ (ov : Int) := by omega
      have q1 := IntWalk.i64_in ((i : Int) + 1) (by omega)
      have q2 := IntWalk.i64_in (ov : Int) (by omega)
      have q3 : ((n : Int) == 0) = false := beq_false_of_ne (by omega)
      have q4 : (ov : Int) % (n : Int) = (kk : Int) := by rw [hkk]; exact (Int.natCast_emod ov n).symm
      have q5 : (ov : Int).tmod (n : Int) = (kk : Int) := by rw [Int.tmod_eq_emod_of_nonneg (by omega)]; exact q4
      have HKK := Lib.hid hkk
      clear hz fb hx hy hW hgb zl zh hov2 hkk hin1 hin2
      have T0 := HWW.out.setAll HX.out y
      obtain ⟨r0, s0⟩ := T0 kk _ (set_get HX.out HY.out) 0 _ rfl
      obtain ⟨r1, s1⟩ := T0 kk _ (set_get HX.out HY.out) 1 _ rfl
      obtain ⟨r2, s2⟩ := T0 kk _ (set_get HX.out HY.out) 2 _ rfl
      obtain ⟨r3, s3⟩ := T0 kk _ (set_get HX.out HY.out) 3 _ rfl
      obtain ⟨r4, s4⟩ := T0 kk _ (set_get HX.out HY.out) 4 _ rfl
      obtain ⟨r5, s5⟩ := T0 kk _ (set_get HX.out HY.out) 5 _ rfl
      obtain ⟨r6, s6⟩ := T0 kk _ (set_get HX.out HY.out) 6 _ rfl
      obtain ⟨r7, s7⟩ := T0 kk _ (set_get HX.out HY.out) 7 _ rfl
      obtain ⟨r8, s8⟩ := T0 kk _ (set_get HX.out HY.out) 8 _ rfl
      rw [Nat.add_zero (kk * 9)] at r0 s0
      clear T0
      go_wp2_with fail
      go_big_region
      all_goals
        have T1 := HWW.out.setAll HX.out y
        have T2 := T1.setAll (set_get HX.out HY.out) x
        have HT2 := Lib.hid T2
        have HPP := Lib.hid ((swap_perm HX.out HY.out).trans hP.out)
        clear T1 T2
        go_wp2_with fail
        go_roundg (n - (i + 1))
        case measure => have := HQ.out; have := HI.out; omega
        case rel => exact ⟨i + 1, (M.set i y).set kk x, by go_num, rfl, by have := HI.out; omega, HPP, Lib.hid (.inr ⟨g, rfl, HGB.out, HT2.out.later (by (repeat' (first | (with_reducible exact G.refl _) | (with_reducible refine G.drewN ?_ _) | (with_reducible refine G.drew ?_) | (with_reducible refine G.alloc ?_ _))))⟩), by
          repeat' (first | (with_reducible exact gr) | (with_reducible refine G.drew ?_) | (with_reducible refine G.drewN ?_ _) | (with_reducible refine G.setCell ?_ (by exact HGB.out) _))⟩
    · have HML := Lib.hid (show M.length = n by rw [hP.out.length_eq, HN.out])
      have HIN := Lib.hid hin
      obtain ⟨E, hE⟩ : ∃ z : Int, Hid ((ckS l).2 = z) := ⟨_, rfl⟩
      obtain ⟨F, hF⟩ : ∃ z : Int, Hid ((ckS M).2 = z) := ⟨_, rfl⟩
      obtain ⟨X, hX⟩ : ∃ z : Int, Hid ((ckS l).1 = z) := ⟨_, rfl⟩
      obtain ⟨Y, hY⟩ : ∃ z : Int, Hid ((ckS M).1 = z) := ⟨_, rfl⟩
      have hEF : (E = 0) ↔ (F = 0) := by rw [← hE.out, ← hF.out]; exact ck_perm hP.out (by rw [HN.out]; have := HL.out; omega)
      have HEF := Lib.hid (show ((E == 0) == (F == 0)) = true by
        by_cases e : E = 0
        · rw [e, hEF.1 e]; rfl
        · have f : ¬ F = 0 := fun h => e (hEF.2 h)
          rw [beq_false_of_ne e, beq_false_of_ne f]; rfl)
      clear hin hEF
      go_wp2_with fail
      any_goals (exfalso; have hz := HIN.out; omega)
      all_goals
        refine (list_any a l n c _ HN.out (by have := HL.out; omega) (H1.out.later gr)).mono ?_
        rintro e w5 ⟨v5, rfl, hR5, hG5⟩
        have g5 : G wr w5 := G.trans (by (repeat' (first | (with_reducible exact G.refl _) | (with_reducible refine G.drewN ?_ _) | (with_reducible refine G.drew ?_) | (with_reducible refine G.alloc ?_ _)))) hG5
        obtain ⟨a5, c5, rfl, hc5, hT5⟩ := hR5.sps
        rw [HN.out] at hc5 ⊢
        have HT5 := Lib.hid hT5
        have HC5 := Lib.hid hc5
        clear hR5 hT5 hc5
        go_wp2_with fail
        refine (sCheck_any a5 l n c5 _ HN.out HC5.out (by have := HL.out; omega) (HT5.out.later (show G w5 _ by (repeat' (first | (with_reducible exact G.refl _) | (with_reducible assumption) | (with_reducible refine G.drewN ?_ _) | (with_reducible refine G.drew ?_) | (with_reducible refine G.alloc ?_ _) | (with_reducible refine G.setCell ?_ (by first | (with_reducible exact Nat.le_refl _) | (simp; done) | (simp; omega) | omega) _) | (with_reducible refine G.trans ?_ (by assumption))))))).mono ?_
        rintro e w6 ⟨rfl, hG6⟩
        have g6 : G wr w6 := g5.trans (G.trans (by (repeat' (first | (with_reducible exact G.refl _) | (with_reducible refine G.drewN ?_ _) | (with_reducible refine G.drew ?_) | (with_reducible refine G.alloc ?_ _)))) hG6)
        rw [hX.out, hE.out]
        go_wp2_with fail
        refine (sCheck_any a2 M n c2 _ HML.out HC2.out (by have := HL.out; omega) (hSW.out.sps.later g6)).mono ?_
        rintro e w7 ⟨rfl, hG7⟩
        have g7 : G w w7 := (gr.trans g6).trans (G.trans (by (repeat' (first | (with_reducible exact G.refl _) | (with_reducible refine G.drewN ?_ _) | (with_reducible refine G.drew ?_) | (with_reducible refine G.alloc ?_ _)))) hG7)
        rw [hY.out, hF.out]
        have hef := HEF.out
        go_wp2_with fail
        go_ret
        exact ⟨ret_bool (by first | done | rfl | exact HEF.out | simpa using HEF.out), g7⟩
set_option maxRecDepth 100000 in
set_option maxHeartbeats 12800000 in
theorem orders_walk (a : Option Addr) (l : List Sp) (c : Nat) (b : Option Addr) (od : List Int) (d : Nat) (w : World) (_ : l.length ≤ c) (_ : c ≤ maxLen) (h1 : SpsAt w a l) (_ : a = none → c = 0) (_ : ∀ n ∈ l, WfS n) (ho : od.length ≤ d) (hd : d ≤ maxLen) (h2 : U8sAt w b od) (_ : b = none → d = 0) (hwo : ∀ z ∈ od, (Lit.int .u8 z).wf = true) (hT : Tab w) :
    Calls Tryd.prog 6 #[.slice a l.length c, .slice b od.length d] w fun e w' => e = .returned (.bool true) ∧ G w w' := by
  by_cases k12 : l.length ≤ 12
  · exact orders_loop a b l od _ c _ d w rfl k12 h1 rfl h2 hwo (Nat.le_trans ho hd) hT
  · obtain ⟨n, hn⟩ : ∃ z : Nat, Hid (l.length = z) := ⟨_, rfl⟩
    rw [hn.out] at k12 ⊢
    have m3 : (12 : Int) < (n : Int) := by omega
    have HT := Lib.hid hT
    clear k12 hT h1 h2 hwo ho hd
    go_enter Tryd.func6, Tryd.ntmps6
    go_wp2_with fail
    refine (known_any _ (HT.out.later (by (repeat' (first | (with_reducible exact G.refl _) | (with_reducible assumption) | (with_reducible refine G.drewN ?_ _) | (with_reducible refine G.drew ?_) | (with_reducible refine G.alloc ?_ _) | (with_reducible refine G.setCell ?_ (by first | (with_reducible exact Nat.le_refl _) | (simp; done) | (simp; omega) | omega) _) | (with_reducible refine G.trans ?_ (by assumption))))))).mono ?_
    rintro e w1 ⟨rfl, hG1⟩
    have g1 : G w w1 := G.trans (by (repeat' (first | (with_reducible exact G.refl _) | (with_reducible refine G.drewN ?_ _) | (with_reducible refine G.drew ?_) | (with_reducible refine G.alloc ?_ _)))) hG1
    go_wp2_with fail
    refine (known_any _ (HT.out.later (g1.trans (by (repeat' (first | (with_reducible exact G.refl _) | (with_reducible assumption) | (with_reducible refine G.drewN ?_ _) | (with_reducible refine G.drew ?_) | (with_reducible refine G.alloc ?_ _) | (with_reducible refine G.setCell ?_ (by first | (with_reducible exact Nat.le_refl _) | (simp; done) | (simp; omega) | omega) _) | (with_reducible refine G.trans ?_ (by assumption)))))))).mono ?_
    rintro e w2 ⟨rfl, hG2⟩
    go_wp2_with fail
    go_ret
    exact ⟨by first | done | rfl | simp, g1.trans (G.trans (by (repeat' (first | (with_reducible exact G.refl _) | (with_reducible refine G.drewN ?_ _) | (with_reducible refine G.drew ?_) | (with_reducible refine G.alloc ?_ _)))) hG2)⟩

/-! ### the row and the card -/
open Go.ChangeShapes Go.WideShapes Go.ChangeAt Go.RowKit
set_option maxRecDepth 100000 in
theorem spannerOrders_lifted (os : Os) (started : os.Started) (H : Type) (enc : TypeId × Value → H) :
    ReturnsInHanded {} Tryd.checked os 6 .any (fun w args => (Rows.spannerOrdersSpec.pre enc Tryd.prog Tryd.f6 [] false w args ∧ laidMetH Tryd.prog laidL w) ∧ sizedMet enc Tryd.prog Tryd.f6 (OpenSpec.ofChange Rows.spannerOrdersSpec) false w args)
      (Rows.spannerOrdersSpec.post enc Tryd.prog Tryd.f6 false true false false) := by
  refine returnsInHanded_of_change_and (C := Tryd.checked) (X := fun w _ => laidMetH Tryd.prog laidL w) (fun _ _ _ hh h => h.of_heap hh) own started (by kernel_rfl) Tryd.func6
    (ChangeSpec.witness_shaped (enc := enc) (C := Tryd.checked) (os := os) (X := fun w _ => laidMetH Tryd.prog laidL w) false (World.laidAll Tryd.prog os laidL) #[.slice none 0 0, .slice none 0 0] 8 (World.laidAll_os _ _ _) (shapedL os) (by kernel_rfl) (by kernel_rfl) (by kernel_rfl) (laid_met os _)) ?_
  intro W base args ds gs before hval0 hW _ _ hL _
  have hval : ∀ (j : Nat) t v, Tryd.f6.params[j]? = some t → args[j]? = some v → Value.okWide Tryd.prog W .any base t v := hval0
  have hW' := hW
  obtain ⟨p, q, hA0, hV, rfl, hfz, hnd⟩ := hW
  have hA : DataW.TrodAll enc Tryd.prog W 0 (fun _ => true) true Tryd.f6.params.toList args.toList ds p := hA0
  rw [Tryd.params6] at hA hval
  obtain ⟨v0, vs0, d0, ds0, p0, q0, hargs, rfl, rfl, h0, r0⟩ := trodAll_cons hA
  obtain ⟨v1, vs1, d1, ds1, p1, q1, rfl, rfl, rfl, h1, r1⟩ := trodAll_cons r0
  obtain ⟨rfl, rfl, rfl⟩ := trodAll_nil r1
  obtain rfl : args = #[v0, v1] := by cases args; simp_all
  obtain ⟨rfl, rfl⟩ := trodVars_none hV
  have keep0 := h0
  obtain ⟨a0, cap0, l0, rfl, lc0, mc0, la0, wf0, lz0⟩ := open_spsArg (hval 0 40 v0 rfl rfl) h0
  have keep1 := h1
  obtain ⟨a1, cap1, l1, rfl, lc1, mc1, la1, wf1, lz1⟩ := open_u8sArg (hval 1 47 v1 rfl rfl) h1
  clear hA0 hval0
  simp only [List.append_nil] at hW'
  have hlt0 : ∀ x ∈ p0, x.block < W.heap.size := fun x hx => by have := hW'.lt x (by simp [hx]); simpa using this
  have hlt1 : ∀ x ∈ p1, x.block < W.heap.size := fun x hx => by have := hW'.lt x (by simp [hx]); simpa using this
  refine (orders_walk a0 l0 cap0 a1 l1 cap1 W lc0 mc0 la0 lz0 wf0 lc1 mc1 la1 lz1 wf1  (tab_of_laid hL)).mono fun e W' ⟨he, hg⟩ => ?_
  subst he
  exact ⟨_, rfl, _, _, _, [], (p0 ++ (p1 ++ [])), [], hW', (trodAll_cons_mk (shut_bool Tryd.underlying4 _) trodAll_mk0), (trodAll_cons_mk (Below.trod (by kernel_rfl) (by kernel_rfl) (of_decide_eq_true (by kernel_rfl)) keep0 hg hlt0) (trodAll_cons_mk (Below.trod (by kernel_rfl) (by kernel_rfl) (of_decide_eq_true (by kernel_rfl)) keep1 hg hlt1) trodAll_mk0)), rfl, Below.frame hg _, fun h => by cases h⟩

theorem spannerOrders_holds : Rows.SpannerOrdersSaid :=
  OpenClaim.holds_of_wide 6 Tryd.f6 rfl rfl rfl rfl rfl rfl rfl ⟨rfl, rfl, rfl, rfl, rfl⟩ rfl rfl rfl rfl rfl (by kernel_rfl) Tryd.func6 (by kernel_rfl)
    (of_decide_eq_true (by kernel_rfl)) (by unfold Func.isWrapper; first | (rw [if_pos (by decide +kernel)]; kernel_rfl) | (rw [if_neg (by decide +kernel)]; exact ⟨rfl, rfl⟩))
    (fun os started H enc _ => spannerOrders_lifted os started H enc)

theorem spannerOrders_card : Rows.SpannerOrdersCardSaid :=
  Claim7.holds_tied_plain_at .later [] [.data] true (true, "104533d283153e89540ccca5515efbc3b9ab0fd0357c0cc46ac89a8b2fd1ff52") false
    spannerOrders_holds (fun _ h => by cases h) (by kernel_rfl) (fun _ h => by cases h) spannerOrders_row_tie rfl ⟨rfl, rfl⟩ (by kernel_rfl) rfl
    (fun f fn hf hfn => by
      obtain rfl : f = 6 := Option.some.inj ((show Tryd.prog.funcNamed "hemiola/hemiolalaw14.SpannerOrders" = some 6 by kernel_rfl).symm.trans hf) |>.symm
      obtain rfl : fn = Tryd.f6 := (Option.some.inj (Tryd.func6.symm.trans hfn)).symm
      exact ⟨by kernel_rfl, fun j t ht => by
        rw [Tryd.params6] at ht
        have hm : t ∈ [40, 47] := by simpa using Array.mem_of_getElem? ht
        have hall : ([40, 47].all fun u => !Tryd.prog.wantsStandIn u) = true := by kernel_rfl
        exact (show Tryd.prog.wantsStandIn t = false by simpa using List.all_eq_true.1 hall t hm)⟩)
    (by kernel_rfl)
#print axioms spannerOrders_card
end Go.Proofs.YtgepjpbdfjcaaaaDoor
