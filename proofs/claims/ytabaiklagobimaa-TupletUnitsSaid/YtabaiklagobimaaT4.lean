import Derived.Test.YtabaiklagobimaaT3
/-! Tuplets: the program's Check. -/
namespace Go.Proofs.Ytabaiklagobimaa
open Go.RowKit
attribute [local go_sem] World.cell?_alloc_some

/-- what the closure answers, and what the check makes of it -/
theorem tr_cases {l : List Tu} {i : Nat} {t : Tu} (h : l[i]? = some t) :
    (tr l i = -1 ∧ dp l i = 0 ∧ ¬ Tight (pop (stk (l.take i)) t.f) t) ∨
    ∃ (m : Nat) (o : Tu), m < i ∧ tr l i = m ∧ l[m]? = some o ∧ 0 < dp l i ∧ (Tight (pop (stk (l.take i)) t.f) t ↔ 3 ≤ dp l i ∨ en o < en t) := by
  have hi := (List.getElem?_eq_some_iff.1 h).1
  have e : (iPop l (istk l i) t.f).map (fun k => l[k]!) = pop (stk (l.take i)) t.f := by rw [iPop_map, istk_map (by omega)]
  have ed := dp_eq h
  unfold tr
  rw [at_get h]
  cases hq : iPop l (istk l i) t.f with
  | nil =>
    rw [hq] at e
    refine .inl ⟨rfl, by rw [ed, ← e]; rfl, ?_⟩
    rw [← e]
    rintro (c | ⟨o, c, _⟩)
    · simp at c
    · simp at c
  | cons m r =>
    rw [hq] at e
    have hm : m ∈ istk l i := (iPop_sub l _ _).subset (by rw [hq]; simp)
    have hmi := istk_lt l i m hm
    refine .inr ⟨m, l[m]'(by omega), hmi, rfl, List.getElem?_eq_getElem (by omega), by rw [ed, ← e]; simp, ?_⟩
    have eg : l[m]! = l[m]'(by omega) := at_get (List.getElem?_eq_getElem (by omega))
    rw [ed, ← e, ← eg]
    constructor
    · rintro (c | ⟨o, c, d⟩)
      · exact .inl c
      · rw [List.map_cons, List.head?_cons] at c
        obtain rfl := Option.some.inj c
        exact .inr d
    · rintro (c | d)
      · exact .inl c
      · exact .inr ⟨_, rfl, d⟩
theorem dp_bd {l : List Tu} {i : Nat} : dp l i ≤ i := by
  unfold dp
  refine Nat.le_trans (iPop_sub l _ _).length_le ?_
  exact istk_len l i

theorem last_take {l : List Tu} {i : Nat} (h : 0 < i) (hi : i ≤ l.length) : (l.take i).getLast? = l[i - 1]? := by
  rw [List.getLast?_eq_getElem?, List.length_take, Nat.min_eq_left hi, List.getElem?_take, if_pos (by omega)]
set_option maxRecDepth 100000 in
set_option maxHeartbeats 25600000 in
theorem tCheck_any (a : Option Addr) (l : List Tu) (n c : Nat) (ev : Int) (w : World) (hn : l.length = n) (h1 : TusAt w a l) (hc : CB l) :
    Calls Try.prog 14 #[.slice a n c, .int .i64 ev] w fun e w' => e = .returned (.int .i64 (ckT ev l)) ∧ G w w' := by
  subst hn
  obtain ⟨R, hR⟩ : ∃ z : Int, Hid (z = ckT ev l) := ⟨_, rfl⟩
  rw [← hR.out]
  have H1 := Lib.hid h1
  have HC := Lib.hid hc
  clear h1 hc
  by_cases e1 : ev < 0
  · have HR := Lib.hid (show R = 2 by rw [hR.out]; exact if_neg (by omega))
    go_enter Try.func14, Try.ntmps14
    go_wp2_with fail
    go_ret
    exact ⟨by rw [HR.out]; rfl, by (repeat' (first | (with_reducible exact G.refl _) | (with_reducible assumption) | (with_reducible refine G.drewN ?_ _) | (with_reducible refine G.drew ?_) | (with_reducible refine G.alloc ?_ _) | (with_reducible refine G.setCell ?_ (by first | (with_reducible exact Nat.le_refl _) | (simp; done) | (simp; omega) | omega) _) | (with_reducible refine G.trans ?_ (by assumption))))⟩
  by_cases e2 : 128 < ev
  · have HR := Lib.hid (show R = 2 by rw [hR.out]; exact if_neg (by omega))
    go_enter Try.func14, Try.ntmps14
    go_wp2_with fail
    go_ret
    exact ⟨by rw [HR.out]; rfl, by (repeat' (first | (with_reducible exact G.refl _) | (with_reducible assumption) | (with_reducible refine G.drewN ?_ _) | (with_reducible refine G.drew ?_) | (with_reducible refine G.alloc ?_ _) | (with_reducible refine G.setCell ?_ (by first | (with_reducible exact Nat.le_refl _) | (simp; done) | (simp; omega) | omega) _) | (with_reducible refine G.trans ?_ (by assumption))))⟩
  by_cases e3 : 16 < (l.length : Int)
  · have HR := Lib.hid (show R = 9 by rw [hR.out]; unfold ckT; rw [if_pos (by omega), if_neg (by omega)])
    go_enter Try.func14, Try.ntmps14
    go_wp2_with fail
    go_ret
    exact ⟨by rw [HR.out]; rfl, by (repeat' (first | (with_reducible exact G.refl _) | (with_reducible assumption) | (with_reducible refine G.drewN ?_ _) | (with_reducible refine G.drew ?_) | (with_reducible refine G.alloc ?_ _) | (with_reducible refine G.setCell ?_ (by first | (with_reducible exact Nat.le_refl _) | (simp; done) | (simp; omega) | omega) _) | (with_reducible refine G.trans ?_ (by assumption))))⟩
  have HR0 := Lib.hid (show R = goP ev none [] l by rw [hR.out]; unfold ckT; rw [if_pos (by omega), if_pos (by omega)])
  have HL := Lib.hid (show l.length ≤ 16 by omega)
  have HE := Lib.hid (show 0 ≤ ev ∧ ev ≤ 128 by omega)
  clear hR
  go_enter Try.func14, Try.ntmps14
  go_wp2_with fail
  refine (opener_any a _ c _).mono ?_
  rintro e w1 ⟨bl, bs, rfl, hSt⟩
  have HS0 := Lib.hid hSt
  clear hSt
  go_wp2_with fail
  go_loopg [23] l.length (fun q x wr => ∃ (i : Nat) (v : Value), x = .int .i64 i ∧ q = l.length - i ∧ i ≤ l.length ∧ Hid (At ev l i) ∧ Hid (∀ k t, k < i → l[k]? = some t → InR ev t) ∧ Hid (St w bl bs (bs + 1) (.slice a l.length c) v (stM (istk l i)) wr))
  case atStart => exact ⟨0, _, rfl, by omega, by omega, Lib.hid (At.zero _ _), Lib.hid (fun k t h => by omega), HS0⟩
  case round =>
    obtain ⟨i, v, rfl, hq, hi, hA, hI, hSt⟩ := hrel
    have HQ := Lib.hid hq
    clear hq
    have gr := hSt.out.g
    by_cases hin : i < l.length
    · obtain ⟨⟨f, cc, aa, nn⟩, hp⟩ : ∃ z, l[i]? = some z := ⟨l[i], List.getElem?_eq_getElem hin⟩
      rcases H1.out with hz | ⟨b0, of, rfl, fc⟩
      · rw [hz] at hin; exact absurd hin (by simp)
      have FC := Lib.hid fc
      obtain ⟨x0, x1, x2, x3⟩ := (fc i _ hp).later gr
      dsimp only at x0 x1 x2 x3
      have HP := Lib.hid hp
      have HCC := Lib.hid (HC.out _ (List.mem_of_getElem? hp))
      have b1 : (0 : Int) ≤ (i : Int) := by omega
      have b2 : (i : Int) < (l.length : Int) := by omega
      have q1 := IntWalk.i64_in ((i : Int) + 1) (by omega)
      clear fc hp
      have HEV := HE.out
      obtain ⟨ev0, ev1⟩ := HEV
      by_cases hr : InR ev ⟨f, cc, aa, nn⟩
      rotate_left
      · have HR := Lib.hid (show R = 2 by rw [HR0.out, hA.out.rest]; exact go_bad HP.out hr)
        have HNR := Lib.hid hr
        clear hr
        go_wp2_with fail
        refine (inRange_any _ _ _ _ _ _ HCC.out HE.out.1 HE.out.2).mono ?_
        rintro x w2 ⟨rfl, hG2⟩
        rw [decide_eq_false HNR.out]
        go_wp2_with fail
        go_ret
        exact ⟨by rw [HR.out]; rfl, by (repeat' (first | (with_reducible exact G.refl _) | (with_reducible assumption) | (with_reducible refine G.drewN ?_ _) | (with_reducible refine G.drew ?_) | (with_reducible refine G.alloc ?_ _) | (with_reducible refine G.setCell ?_ (by first | (with_reducible exact Nat.le_refl _) | (simp; done) | (simp; omega) | omega) _) | (with_reducible refine G.trans ?_ (by assumption))))⟩
      have HT := Lib.hid hr
      clear hr
      go_wp2_with fail
      refine (inRange_any _ _ _ _ _ _ HCC.out HE.out.1 HE.out.2).mono ?_
      rintro x w2 ⟨rfl, hG2⟩
      rw [decide_eq_true HT.out]
      obtain ⟨z0, z1, z2, z3⟩ := four_at rfl hG2
      -- the round behind the range
      have HBT := Lib.hid (show -9223372036854775808 ≤ f + cc ∧ f + cc ≤ 9223372036854775807 by have := HT.out; have := HE.out; unfold InR at *; dsimp only at *; omega)
      have HIN := Lib.hid hin
      have HIX := Lib.hid (show ∀ k t, k < i + 1 → l[k]? = some t → InR ev t from fun k t h1 h2 => by
        by_cases e : k = i
        · subst e
          rw [HP.out] at h2
          obtain rfl := Option.some.inj h2
          exact HT.out
        · exact hI.out k t (by omega) h2)
      have HBD := Lib.hid (show ∀ k t, k ≤ i → l[k]? = some t → 0 ≤ t.f ∧ 0 ≤ t.c ∧ t.f + t.c ≤ 128 from fun k t h1 h2 => by
        have := HIX.out k t (by omega) h2
        have := HE.out
        unfold InR at *
        omega)
      have HTC := Lib.hid (tr_cases HP.out)
      dsimp only at HTC
      obtain ⟨B1, hB1⟩ : ∃ z : Nat, Hid (wr.heap.size = z) := ⟨_, rfl⟩
      have HNB := Lib.hid (show B1 ≠ bs ∧ v.ownBlock ≠ some B1 from ⟨fun e => by have := cell_lt hSt.out.cs; rw [hB1.out, e] at this; exact Nat.lt_irrefl _ this, fun e => by have := hSt.out.row.ownLt _ e; rw [hB1.out] at this; exact Nat.lt_irrefl _ this⟩)
      have gA : G wr w2 := G.trans (by (repeat' (first | (with_reducible exact G.refl _) | (with_reducible refine G.drewN ?_ _) | (with_reducible refine G.drew ?_) | (with_reducible refine G.alloc ?_ _)))) hG2
      rw [hB1.out] at z0 z1 z2 z3 ⊢
      by_cases i0 : i = 0
      · have HNO := Lib.hid (show ¬ Ord (l.take i).getLast? ⟨f, cc, aa, nn⟩ from fun ⟨q, h, _⟩ => by rw [i0] at h; simp at h)
        have i1 : ¬ (0 < (i : Int)) := by omega
        have i2 : decide (0 < (i : Int)) = false := decide_eq_false i1
        have i3 : ¬ 0 < i := by omega
        have i4 : decide (0 < i) = false := decide_eq_false i3
        clear i0 hin
        go_wp2_with fail
        go_big_region
        all_goals
          go_wp2_with fail
          refine (open_any w _ l l.length c bl bs (bs + 1) i v _ rfl H1.out (by have := HL.out; omega) (cell_lt (hSt.out.later (gA.trans (by (repeat' (first | (with_reducible exact G.refl _) | (with_reducible assumption) | (with_reducible refine G.drewN ?_ _) | (with_reducible refine G.drew ?_) | (with_reducible refine G.alloc ?_ _) | (with_reducible refine G.setCell ?_ (by first | (with_reducible exact Nat.le_refl _) | (simp; done) | (simp; omega) | omega) _) | (with_reducible refine G.trans ?_ (by assumption))))))).cs) (hSt.out.later (gA.trans (by (repeat' (first | (with_reducible exact G.refl _) | (with_reducible assumption) | (with_reducible refine G.drewN ?_ _) | (with_reducible refine G.drew ?_) | (with_reducible refine G.alloc ?_ _) | (with_reducible refine G.setCell ?_ (by first | (with_reducible exact Nat.le_refl _) | (simp; done) | (simp; omega) | omega) _) | (with_reducible refine G.trans ?_ (by assumption))))))) (by have := HIN.out; omega) (fun k t h1 h2 => HBD.out k t h1 h2)).mono ?_
          rintro e w4 ⟨v4, rfl, hS4, hOp4⟩
          have HS4 := Lib.hid hS4
          have g4 : G w w4 := hS4.g
          have Z0 := hOp4.cell (G.at (show G w2 _ by (repeat' (first | (with_reducible exact G.refl _) | (with_reducible assumption) | (with_reducible refine G.drewN ?_ _) | (with_reducible refine G.drew ?_) | (with_reducible refine G.alloc ?_ _) | (with_reducible refine G.setCell ?_ (by first | (with_reducible exact Nat.le_refl _) | (simp; done) | (simp; omega) | omega) _) | (with_reducible refine G.trans ?_ (by assumption))))) z0) HNB.out.1 HNB.out.2
          have Z1 := hOp4.cell (G.at (show G w2 _ by (repeat' (first | (with_reducible exact G.refl _) | (with_reducible assumption) | (with_reducible refine G.drewN ?_ _) | (with_reducible refine G.drew ?_) | (with_reducible refine G.alloc ?_ _) | (with_reducible refine G.setCell ?_ (by first | (with_reducible exact Nat.le_refl _) | (simp; done) | (simp; omega) | omega) _) | (with_reducible refine G.trans ?_ (by assumption))))) z1) HNB.out.1 HNB.out.2
          have Z2 := hOp4.cell (G.at (show G w2 _ by (repeat' (first | (with_reducible exact G.refl _) | (with_reducible assumption) | (with_reducible refine G.drewN ?_ _) | (with_reducible refine G.drew ?_) | (with_reducible refine G.alloc ?_ _) | (with_reducible refine G.setCell ?_ (by first | (with_reducible exact Nat.le_refl _) | (simp; done) | (simp; omega) | omega) _) | (with_reducible refine G.trans ?_ (by assumption))))) z2) HNB.out.1 HNB.out.2
          have Z3 := hOp4.cell (G.at (show G w2 _ by (repeat' (first | (with_reducible exact G.refl _) | (with_reducible assumption) | (with_reducible refine G.drewN ?_ _) | (with_reducible refine G.drew ?_) | (with_reducible refine G.alloc ?_ _) | (with_reducible refine G.setCell ?_ (by first | (with_reducible exact Nat.le_refl _) | (simp; done) | (simp; omega) | omega) _) | (with_reducible refine G.trans ?_ (by assumption))))) z3) HNB.out.1 HNB.out.2
          clear hS4 hOp4 z0 z1 z2 z3
          rcases HTC.out with ⟨t0, t1, t2⟩ | ⟨m, ⟨f1, c1', a1, n1⟩, t0, t1, t2, t3, t4⟩
          · have HNT := Lib.hid t2
            rw [t0, t1]
            clear t0 t1 t2
            go_wp2_with fail
            go_big_region
            all_goals
              go_wp2_with fail
              go_roundg (l.length - (i + 1))
              case measure => have := HQ.out; omega
              case rel => exact ⟨i + 1, v4, by first | rfl | go_num, rfl, by omega, Lib.hid (hA.out.next HP.out HT.out HNO.out HNT.out), HIX, Lib.hid (HS4.out.later (by (repeat' (first | (with_reducible exact G.refl _) | (with_reducible assumption) | (with_reducible refine G.drewN ?_ _) | (with_reducible refine G.drew ?_) | (with_reducible refine G.alloc ?_ _) | (with_reducible refine G.setCell ?_ (by first | (with_reducible exact Nat.le_refl _) | (simp; done) | (simp; omega) | omega) _) | (with_reducible refine G.trans ?_ (by assumption))))))⟩
          · rw [t1]
            obtain ⟨D, hD⟩ : ∃ z : Nat, Hid (z = dp l i) := ⟨_, rfl⟩
            rw [← hD.out] at t3 t4 ⊢
            have T4 := Lib.hid t4
            have m0 : (0 : Int) ≤ (m : Int) := by omega
            have m1 : (m : Int) < (l.length : Int) := by omega
            by_cases d3 : 3 ≤ (D : Int)
            · have HR := Lib.hid (show R = 21 by rw [HR0.out, hA.out.rest]; exact go_tight HP.out HT.out HNO.out (T4.out.2 (.inl (by omega))))
              have d4 : decide (3 ≤ (D : Int)) = true := decide_eq_true d3
              have d5 : 3 ≤ D := by omega
              have d6 : decide (3 ≤ D) = true := decide_eq_true d5
              clear t0 t1 t2 t3 t4
              go_wp2_with fail
              go_big_region
              all_goals
                go_wp2_with fail
                go_ret
                exact ⟨by rw [HR.out]; rfl, by (repeat' (first | (with_reducible exact G.refl _) | (with_reducible assumption) | (with_reducible refine G.drewN ?_ _) | (with_reducible refine G.drew ?_) | (with_reducible refine G.alloc ?_ _) | (with_reducible refine G.setCell ?_ (by first | (with_reducible exact Nat.le_refl _) | (simp; done) | (simp; omega) | omega) _) | (with_reducible refine G.trans ?_ (by assumption))))⟩
            · obtain ⟨X0, X1, X2, X3⟩ := (FC.out m _ t2).later g4
              dsimp only at X0 X1 X2 X3
              have HBM := Lib.hid (show -9223372036854775808 ≤ f1 + c1' ∧ f1 + c1' ≤ 9223372036854775807 by
                have := HBD.out m _ (by omega) t2
                dsimp only at this
                omega)
              have d4 : decide (3 ≤ (D : Int)) = false := decide_eq_false d3
              have d5 : ¬ 3 ≤ D := by omega
              have d6 : decide (3 ≤ D) = false := decide_eq_false d5
              have m2 : decide ((0 : Int) ≤ (m : Int)) = true := decide_eq_true m0
              have gb : G w4 w4 := G.refl _
              clear t0 t1 t2 t3 t4
              by_cases hlt : f1 + c1' < f + cc
              · have HR := Lib.hid (show R = 21 by rw [HR0.out, hA.out.rest]; exact go_tight HP.out HT.out HNO.out (T4.out.2 (.inr hlt)))
                have h5 : decide (f1 + c1' < f + cc) = true := decide_eq_true hlt
                go_wp2_with fail
                go_region_held3 (fun w' => w'.cell? ⟨B1, 0, none⟩ = some (.int .i64 f) ∧ w'.cell? ⟨B1, 1, none⟩ = some (.int .i64 cc) ∧ w'.cell? ⟨B1, 2, none⟩ = some (.int .i64 aa) ∧ w'.cell? ⟨B1, 3, none⟩ = some (.int .i64 nn) ∧ w'.cell? ⟨b0, of + m * 4, none⟩ = some (.int .i64 f1) ∧ w'.cell? ⟨b0, of + m * 4 + 1, none⟩ = some (.int .i64 c1') ∧ w'.cell? ⟨b0, of + m * 4 + 2, none⟩ = some (.int .i64 a1) ∧ w'.cell? ⟨b0, of + m * 4 + 3, none⟩ = some (.int .i64 n1))
                  (first | (with_reducible assumption) | ((try dsimp only); (repeat' (with_reducible apply And.intro)) <;> go_simp))
                  (first | (go_at_call 41; refine (end_any _ _ _ _ _ (by first | exact HBM.out.1 | exact HBT.out.1) (by first | exact HBM.out.2 | exact HBT.out.2)).mono ?_; rintro x w9 ⟨rfl, hG9⟩; have gq := gb.trans (G.trans (by (repeat' (first | (with_reducible exact G.refl _) | (with_reducible refine G.drewN ?_ _) | (with_reducible refine G.drew ?_) | (with_reducible refine G.alloc ?_ _)))) hG9); clear gb; have gb := gq; have P0 := gb.at Z0; have P1 := gb.at Z1; have P2 := gb.at Z2; have P3 := gb.at Z3; have Q0 := gb.at X0; have Q1 := gb.at X1; have Q2 := gb.at X2; have Q3 := gb.at X3))
                all_goals
                  go_wp2_with fail
                  go_ret
                  exact ⟨by rw [HR.out]; rfl, g4.trans (by first | with_reducible assumption | (repeat' (first | (with_reducible exact G.refl _) | (with_reducible assumption) | (with_reducible refine G.drewN ?_ _) | (with_reducible refine G.drew ?_) | (with_reducible refine G.alloc ?_ _) | (with_reducible refine G.setCell ?_ (by first | (with_reducible exact Nat.le_refl _) | (simp; done) | (simp; omega) | omega) _) | (with_reducible refine G.trans ?_ (by assumption)))))⟩
              · have HNT := Lib.hid (show ¬ Tight (pop (stk (l.take i)) f) ⟨f, cc, aa, nn⟩ from fun k => by
                  rcases T4.out.1 k with k | k
                  · omega
                  · exact hlt k)
                have h5 : decide (f1 + c1' < f + cc) = false := decide_eq_false hlt
                go_wp2_with fail
                go_region_held3 (fun w' => w'.cell? ⟨B1, 0, none⟩ = some (.int .i64 f) ∧ w'.cell? ⟨B1, 1, none⟩ = some (.int .i64 cc) ∧ w'.cell? ⟨B1, 2, none⟩ = some (.int .i64 aa) ∧ w'.cell? ⟨B1, 3, none⟩ = some (.int .i64 nn) ∧ w'.cell? ⟨b0, of + m * 4, none⟩ = some (.int .i64 f1) ∧ w'.cell? ⟨b0, of + m * 4 + 1, none⟩ = some (.int .i64 c1') ∧ w'.cell? ⟨b0, of + m * 4 + 2, none⟩ = some (.int .i64 a1) ∧ w'.cell? ⟨b0, of + m * 4 + 3, none⟩ = some (.int .i64 n1))
                  (first | (with_reducible assumption) | ((try dsimp only); (repeat' (with_reducible apply And.intro)) <;> go_simp))
                  (first | (go_at_call 41; refine (end_any _ _ _ _ _ (by first | exact HBM.out.1 | exact HBT.out.1) (by first | exact HBM.out.2 | exact HBT.out.2)).mono ?_; rintro x w9 ⟨rfl, hG9⟩; have gq := gb.trans (G.trans (by (repeat' (first | (with_reducible exact G.refl _) | (with_reducible refine G.drewN ?_ _) | (with_reducible refine G.drew ?_) | (with_reducible refine G.alloc ?_ _)))) hG9); clear gb; have gb := gq; have P0 := gb.at Z0; have P1 := gb.at Z1; have P2 := gb.at Z2; have P3 := gb.at Z3; have Q0 := gb.at X0; have Q1 := gb.at X1; have Q2 := gb.at X2; have Q3 := gb.at X3))
                all_goals
                  go_wp2_with fail
                  go_roundg (l.length - (i + 1))
                  case measure => have := HQ.out; omega
                  case rel => exact ⟨i + 1, v4, by first | rfl | go_num, rfl, by omega, Lib.hid (hA.out.next HP.out HT.out HNO.out HNT.out), HIX, Lib.hid (HS4.out.later (by (repeat' (first | (with_reducible exact G.refl _) | (with_reducible assumption) | (with_reducible refine G.drewN ?_ _) | (with_reducible refine G.drew ?_) | (with_reducible refine G.alloc ?_ _) | (with_reducible refine G.setCell ?_ (by first | (with_reducible exact Nat.le_refl _) | (simp; done) | (simp; omega) | omega) _) | (with_reducible refine G.trans ?_ (by assumption))))))⟩
      obtain ⟨⟨f', c', a', n'⟩, hu⟩ : ∃ z, l[i - 1]? = some z := ⟨l[i - 1]'(by omega), List.getElem?_eq_getElem (by omega)⟩
      have HORD := Lib.hid (show Ord (l.take i).getLast? ⟨f, cc, aa, nn⟩ ↔ 0 < cpr ⟨f', c', a', n'⟩ ⟨f, cc, aa, nn⟩ by
        rw [last_take (by omega) (by omega), hu, cpr_pos]
        exact ⟨fun ⟨q, h, k⟩ => by cases h; exact k, fun k => ⟨_, rfl, k⟩⟩)
      obtain ⟨C, hC⟩ : ∃ z : Int, Hid (z = cpr ⟨f', c', a', n'⟩ ⟨f, cc, aa, nn⟩) := ⟨_, rfl⟩
      rw [← hC.out] at HORD
      obtain ⟨y0, y1, y2, y3⟩ := (FC.out (i - 1) _ hu).later (gr.trans gA)
      dsimp only at y0 y1 y2 y3
      have i1 : 0 < (i : Int) := by omega
      have i2 : decide (0 < (i : Int)) = true := decide_eq_true i1
      have i3 : 0 < i := by omega
      have i4 : decide (0 < i) = true := decide_eq_true i3
      have i5 : (1 : Int) ≤ (i : Int) := by omega
      have j1 : (0 : Int) ≤ (i : Int) - 1 := by omega
      have j2 : (i : Int) - 1 < (l.length : Int) := by omega
      have j3 := IntWalk.i64_in ((i : Int) - 1) (by omega)
      have j4 : ((i : Int) - 1).toNat = i - 1 := by omega
      clear hu i0 hin
      have gB : G w2 w2 := G.refl _
      by_cases cp : 0 < C
      · have HR := Lib.hid (show R = 25 by rw [HR0.out, hA.out.rest]; exact go_ord HP.out HT.out (HORD.out.2 cp))
        have cq : decide (0 < C) = true := decide_eq_true cp
        go_wp2_with fail
        go_region_held3 (fun w' => w'.cell? ⟨B1, 0, none⟩ = some (.int .i64 f) ∧ w'.cell? ⟨B1, 1, none⟩ = some (.int .i64 cc) ∧ w'.cell? ⟨B1, 2, none⟩ = some (.int .i64 aa) ∧ w'.cell? ⟨B1, 3, none⟩ = some (.int .i64 nn) ∧ w'.cell? ⟨b0, of + (i - 1) * 4, none⟩ = some (.int .i64 f') ∧ w'.cell? ⟨b0, of + (i - 1) * 4 + 1, none⟩ = some (.int .i64 c') ∧ w'.cell? ⟨b0, of + (i - 1) * 4 + 2, none⟩ = some (.int .i64 a') ∧ w'.cell? ⟨b0, of + (i - 1) * 4 + 3, none⟩ = some (.int .i64 n'))
          (first | (with_reducible assumption) | ((try dsimp only); (repeat' (with_reducible apply And.intro)) <;> go_simp))
          (first | (go_at_call 40; refine (compare_any _ _ _ _ _ _ _ _ _).mono ?_; rintro x w3 ⟨rfl, hG3⟩; rw [← hC.out]; have gC : G w2 w3 := G.trans (by (repeat' (first | (with_reducible exact G.refl _) | (with_reducible refine G.drewN ?_ _) | (with_reducible refine G.drew ?_) | (with_reducible refine G.alloc ?_ _)))) hG3; have U0 := gC.at z0; have U1 := gC.at z1; have U2 := gC.at z2; have U3 := gC.at z3; have V0 := gC.at y0; have V1 := gC.at y1; have V2 := gC.at y2; have V3 := gC.at y3))
        all_goals
          go_wp2_with fail
          go_ret
          exact ⟨by rw [HR.out]; rfl, gr.trans (gA.trans (by first | with_reducible assumption | (repeat' (first | (with_reducible exact G.refl _) | (with_reducible assumption) | (with_reducible refine G.drewN ?_ _) | (with_reducible refine G.drew ?_) | (with_reducible refine G.alloc ?_ _) | (with_reducible refine G.setCell ?_ (by first | (with_reducible exact Nat.le_refl _) | (simp; done) | (simp; omega) | omega) _) | (with_reducible refine G.trans ?_ (by assumption))))))⟩
      · have HNO := Lib.hid (show ¬ Ord (l.take i).getLast? ⟨f, cc, aa, nn⟩ from fun k => cp (HORD.out.1 k))
        have cq : decide (0 < C) = false := decide_eq_false cp
        go_wp2_with fail
        go_region_held3 (fun w' => w'.cell? ⟨B1, 0, none⟩ = some (.int .i64 f) ∧ w'.cell? ⟨B1, 1, none⟩ = some (.int .i64 cc) ∧ w'.cell? ⟨B1, 2, none⟩ = some (.int .i64 aa) ∧ w'.cell? ⟨B1, 3, none⟩ = some (.int .i64 nn) ∧ w'.cell? ⟨b0, of + (i - 1) * 4, none⟩ = some (.int .i64 f') ∧ w'.cell? ⟨b0, of + (i - 1) * 4 + 1, none⟩ = some (.int .i64 c') ∧ w'.cell? ⟨b0, of + (i - 1) * 4 + 2, none⟩ = some (.int .i64 a') ∧ w'.cell? ⟨b0, of + (i - 1) * 4 + 3, none⟩ = some (.int .i64 n'))
          (first | (with_reducible assumption) | ((try dsimp only); (repeat' (with_reducible apply And.intro)) <;> go_simp))
          (first | (go_at_call 40; refine (compare_any _ _ _ _ _ _ _ _ _).mono ?_; rintro x w3 ⟨rfl, hG3⟩; rw [← hC.out]; have gC : G w2 w3 := G.trans (by (repeat' (first | (with_reducible exact G.refl _) | (with_reducible refine G.drewN ?_ _) | (with_reducible refine G.drew ?_) | (with_reducible refine G.alloc ?_ _)))) hG3; have U0 := gC.at z0; have U1 := gC.at z1; have U2 := gC.at z2; have U3 := gC.at z3; have V0 := gC.at y0; have V1 := gC.at y1; have V2 := gC.at y2; have V3 := gC.at y3))
        all_goals
          go_wp2_with fail
          refine (open_any w _ l l.length c bl bs (bs + 1) i v _ rfl H1.out (by have := HL.out; omega) (cell_lt (hSt.out.later (gA.trans (G.trans gC (by (repeat' (first | (with_reducible exact G.refl _) | (with_reducible assumption) | (with_reducible refine G.drewN ?_ _) | (with_reducible refine G.drew ?_) | (with_reducible refine G.alloc ?_ _) | (with_reducible refine G.setCell ?_ (by first | (with_reducible exact Nat.le_refl _) | (simp; done) | (simp; omega) | omega) _) | (with_reducible refine G.trans ?_ (by assumption)))))))).cs) (hSt.out.later (gA.trans (G.trans gC (by (repeat' (first | (with_reducible exact G.refl _) | (with_reducible assumption) | (with_reducible refine G.drewN ?_ _) | (with_reducible refine G.drew ?_) | (with_reducible refine G.alloc ?_ _) | (with_reducible refine G.setCell ?_ (by first | (with_reducible exact Nat.le_refl _) | (simp; done) | (simp; omega) | omega) _) | (with_reducible refine G.trans ?_ (by assumption)))))))) (by have := HIN.out; omega) (fun k t h1 h2 => HBD.out k t h1 h2)).mono ?_
          rintro e w4 ⟨v4, rfl, hS4, hOp4⟩
          have HS4 := Lib.hid hS4
          have g4 : G w w4 := hS4.g
          have Z0 := hOp4.cell (G.at (show G w3 _ by (repeat' (first | (with_reducible exact G.refl _) | (with_reducible assumption) | (with_reducible refine G.drewN ?_ _) | (with_reducible refine G.drew ?_) | (with_reducible refine G.alloc ?_ _) | (with_reducible refine G.setCell ?_ (by first | (with_reducible exact Nat.le_refl _) | (simp; done) | (simp; omega) | omega) _) | (with_reducible refine G.trans ?_ (by assumption))))) U0) HNB.out.1 HNB.out.2
          have Z1 := hOp4.cell (G.at (show G w3 _ by (repeat' (first | (with_reducible exact G.refl _) | (with_reducible assumption) | (with_reducible refine G.drewN ?_ _) | (with_reducible refine G.drew ?_) | (with_reducible refine G.alloc ?_ _) | (with_reducible refine G.setCell ?_ (by first | (with_reducible exact Nat.le_refl _) | (simp; done) | (simp; omega) | omega) _) | (with_reducible refine G.trans ?_ (by assumption))))) U1) HNB.out.1 HNB.out.2
          have Z2 := hOp4.cell (G.at (show G w3 _ by (repeat' (first | (with_reducible exact G.refl _) | (with_reducible assumption) | (with_reducible refine G.drewN ?_ _) | (with_reducible refine G.drew ?_) | (with_reducible refine G.alloc ?_ _) | (with_reducible refine G.setCell ?_ (by first | (with_reducible exact Nat.le_refl _) | (simp; done) | (simp; omega) | omega) _) | (with_reducible refine G.trans ?_ (by assumption))))) U2) HNB.out.1 HNB.out.2
          have Z3 := hOp4.cell (G.at (show G w3 _ by (repeat' (first | (with_reducible exact G.refl _) | (with_reducible assumption) | (with_reducible refine G.drewN ?_ _) | (with_reducible refine G.drew ?_) | (with_reducible refine G.alloc ?_ _) | (with_reducible refine G.setCell ?_ (by first | (with_reducible exact Nat.le_refl _) | (simp; done) | (simp; omega) | omega) _) | (with_reducible refine G.trans ?_ (by assumption))))) U3) HNB.out.1 HNB.out.2
          clear hS4 hOp4 z0 z1 z2 z3 U0 U1 U2 U3 y0 y1 y2 y3 V0 V1 V2 V3
          rcases HTC.out with ⟨t0, t1, t2⟩ | ⟨m, ⟨f1, c1', a1, n1⟩, t0, t1, t2, t3, t4⟩
          · have HNT := Lib.hid t2
            rw [t0, t1]
            clear t0 t1 t2
            go_wp2_with fail
            go_big_region
            all_goals
              go_wp2_with fail
              go_roundg (l.length - (i + 1))
              case measure => have := HQ.out; omega
              case rel => exact ⟨i + 1, v4, by first | rfl | go_num, rfl, by omega, Lib.hid (hA.out.next HP.out HT.out HNO.out HNT.out), HIX, Lib.hid (HS4.out.later (by (repeat' (first | (with_reducible exact G.refl _) | (with_reducible assumption) | (with_reducible refine G.drewN ?_ _) | (with_reducible refine G.drew ?_) | (with_reducible refine G.alloc ?_ _) | (with_reducible refine G.setCell ?_ (by first | (with_reducible exact Nat.le_refl _) | (simp; done) | (simp; omega) | omega) _) | (with_reducible refine G.trans ?_ (by assumption))))))⟩
          · rw [t1]
            obtain ⟨D, hD⟩ : ∃ z : Nat, Hid (z = dp l i) := ⟨_, rfl⟩
            rw [← hD.out] at t3 t4 ⊢
            have T4 := Lib.hid t4
            have m0 : (0 : Int) ≤ (m : Int) := by omega
            have m1 : (m : Int) < (l.length : Int) := by omega
            by_cases d3 : 3 ≤ (D : Int)
            · have HR := Lib.hid (show R = 21 by rw [HR0.out, hA.out.rest]; exact go_tight HP.out HT.out HNO.out (T4.out.2 (.inl (by omega))))
              have d4 : decide (3 ≤ (D : Int)) = true := decide_eq_true d3
              have d5 : 3 ≤ D := by omega
              have d6 : decide (3 ≤ D) = true := decide_eq_true d5
              clear t0 t1 t2 t3 t4
              go_wp2_with fail
              go_big_region
              all_goals
                go_wp2_with fail
                go_ret
                exact ⟨by rw [HR.out]; rfl, by (repeat' (first | (with_reducible exact G.refl _) | (with_reducible assumption) | (with_reducible refine G.drewN ?_ _) | (with_reducible refine G.drew ?_) | (with_reducible refine G.alloc ?_ _) | (with_reducible refine G.setCell ?_ (by first | (with_reducible exact Nat.le_refl _) | (simp; done) | (simp; omega) | omega) _) | (with_reducible refine G.trans ?_ (by assumption))))⟩
            · obtain ⟨X0, X1, X2, X3⟩ := (FC.out m _ t2).later g4
              dsimp only at X0 X1 X2 X3
              have HBM := Lib.hid (show -9223372036854775808 ≤ f1 + c1' ∧ f1 + c1' ≤ 9223372036854775807 by
                have := HBD.out m _ (by omega) t2
                dsimp only at this
                omega)
              have d4 : decide (3 ≤ (D : Int)) = false := decide_eq_false d3
              have d5 : ¬ 3 ≤ D := by omega
              have d6 : decide (3 ≤ D) = false := decide_eq_false d5
              have m2 : decide ((0 : Int) ≤ (m : Int)) = true := decide_eq_true m0
              have gb : G w4 w4 := G.refl _
              clear t0 t1 t2 t3 t4
              by_cases hlt : f1 + c1' < f + cc
              · have HR := Lib.hid (show R = 21 by rw [HR0.out, hA.out.rest]; exact go_tight HP.out HT.out HNO.out (T4.out.2 (.inr hlt)))
                have h5 : decide (f1 + c1' < f + cc) = true := decide_eq_true hlt
                go_wp2_with fail
                go_region_held3 (fun w' => w'.cell? ⟨B1, 0, none⟩ = some (.int .i64 f) ∧ w'.cell? ⟨B1, 1, none⟩ = some (.int .i64 cc) ∧ w'.cell? ⟨B1, 2, none⟩ = some (.int .i64 aa) ∧ w'.cell? ⟨B1, 3, none⟩ = some (.int .i64 nn) ∧ w'.cell? ⟨b0, of + m * 4, none⟩ = some (.int .i64 f1) ∧ w'.cell? ⟨b0, of + m * 4 + 1, none⟩ = some (.int .i64 c1') ∧ w'.cell? ⟨b0, of + m * 4 + 2, none⟩ = some (.int .i64 a1) ∧ w'.cell? ⟨b0, of + m * 4 + 3, none⟩ = some (.int .i64 n1))
                  (first | (with_reducible assumption) | ((try dsimp only); (repeat' (with_reducible apply And.intro)) <;> go_simp))
                  (first | (go_at_call 41; refine (end_any _ _ _ _ _ (by first | exact HBM.out.1 | exact HBT.out.1) (by first | exact HBM.out.2 | exact HBT.out.2)).mono ?_; rintro x w9 ⟨rfl, hG9⟩; have gq := gb.trans (G.trans (by (repeat' (first | (with_reducible exact G.refl _) | (with_reducible refine G.drewN ?_ _) | (with_reducible refine G.drew ?_) | (with_reducible refine G.alloc ?_ _)))) hG9); clear gb; have gb := gq; have P0 := gb.at Z0; have P1 := gb.at Z1; have P2 := gb.at Z2; have P3 := gb.at Z3; have Q0 := gb.at X0; have Q1 := gb.at X1; have Q2 := gb.at X2; have Q3 := gb.at X3))
                all_goals
                  go_wp2_with fail
                  go_ret
                  exact ⟨by rw [HR.out]; rfl, g4.trans (by first | with_reducible assumption | (repeat' (first | (with_reducible exact G.refl _) | (with_reducible assumption) | (with_reducible refine G.drewN ?_ _) | (with_reducible refine G.drew ?_) | (with_reducible refine G.alloc ?_ _) | (with_reducible refine G.setCell ?_ (by first | (with_reducible exact Nat.le_refl _) | (simp; done) | (simp; omega) | omega) _) | (with_reducible refine G.trans ?_ (by assumption)))))⟩
              · have HNT := Lib.hid (show ¬ Tight (pop (stk (l.take i)) f) ⟨f, cc, aa, nn⟩ from fun k => by
                  rcases T4.out.1 k with k | k
                  · omega
                  · exact hlt k)
                have h5 : decide (f1 + c1' < f + cc) = false := decide_eq_false hlt
                go_wp2_with fail
                go_region_held3 (fun w' => w'.cell? ⟨B1, 0, none⟩ = some (.int .i64 f) ∧ w'.cell? ⟨B1, 1, none⟩ = some (.int .i64 cc) ∧ w'.cell? ⟨B1, 2, none⟩ = some (.int .i64 aa) ∧ w'.cell? ⟨B1, 3, none⟩ = some (.int .i64 nn) ∧ w'.cell? ⟨b0, of + m * 4, none⟩ = some (.int .i64 f1) ∧ w'.cell? ⟨b0, of + m * 4 + 1, none⟩ = some (.int .i64 c1') ∧ w'.cell? ⟨b0, of + m * 4 + 2, none⟩ = some (.int .i64 a1) ∧ w'.cell? ⟨b0, of + m * 4 + 3, none⟩ = some (.int .i64 n1))
                  (first | (with_reducible assumption) | ((try dsimp only); (repeat' (with_reducible apply And.intro)) <;> go_simp))
                  (first | (go_at_call 41; refine (end_any _ _ _ _ _ (by first | exact HBM.out.1 | exact HBT.out.1) (by first | exact HBM.out.2 | exact HBT.out.2)).mono ?_; rintro x w9 ⟨rfl, hG9⟩; have gq := gb.trans (G.trans (by (repeat' (first | (with_reducible exact G.refl _) | (with_reducible refine G.drewN ?_ _) | (with_reducible refine G.drew ?_) | (with_reducible refine G.alloc ?_ _)))) hG9); clear gb; have gb := gq; have P0 := gb.at Z0; have P1 := gb.at Z1; have P2 := gb.at Z2; have P3 := gb.at Z3; have Q0 := gb.at X0; have Q1 := gb.at X1; have Q2 := gb.at X2; have Q3 := gb.at X3))
                all_goals
                  go_wp2_with fail
                  go_roundg (l.length - (i + 1))
                  case measure => have := HQ.out; omega
                  case rel => exact ⟨i + 1, v4, by first | rfl | go_num, rfl, by omega, Lib.hid (hA.out.next HP.out HT.out HNO.out HNT.out), HIX, Lib.hid (HS4.out.later (by (repeat' (first | (with_reducible exact G.refl _) | (with_reducible assumption) | (with_reducible refine G.drewN ?_ _) | (with_reducible refine G.drew ?_) | (with_reducible refine G.alloc ?_ _) | (with_reducible refine G.setCell ?_ (by first | (with_reducible exact Nat.le_refl _) | (simp; done) | (simp; omega) | omega) _) | (with_reducible refine G.trans ?_ (by assumption))))))⟩
    · have hii : i = l.length := by omega
      subst hii
      have HR2 := Lib.hid (show R = 0 by rw [HR0.out]; exact hA.out.done)
      go_wp2_with fail
      go_ret
      exact ⟨by rw [HR2.out]; rfl, by (repeat' (first | (with_reducible exact G.refl _) | (with_reducible assumption) | (with_reducible refine G.drewN ?_ _) | (with_reducible refine G.drew ?_) | (with_reducible refine G.alloc ?_ _) | (with_reducible refine G.setCell ?_ (by first | (with_reducible exact Nat.le_refl _) | (simp; done) | (simp; omega) | omega) _) | (with_reducible refine G.trans ?_ (by assumption))))⟩
end Go.Proofs.Ytabaiklagobimaa
