import Derived.Test.YtabaiklagobimaaR4
/-! Tuplets: the unit of one, of the program. -/
namespace Go.Proofs.Ytabaiklagobimaa
open Go.RowKit
attribute [local go_sem] World.cell?_alloc_some

def sz : Nat → Int
  | 0 => 3870720
  | k + 1 => sz k / 2
theorem sz_bd : ∀ k, 0 ≤ sz k ∧ sz k ≤ 3870720
  | 0 => by decide
  | k + 1 => by have := sz_bd k; unfold sz; omega
def lgL (s a : Int) : List Nat → Int
  | [] => -2
  | k :: r => if s = a * sz k then (k : Int) - 1 else lgL s a r
def lgT (s a : Int) : Int := lgL s a (List.range 10)
theorem lg_step {j : Nat} (h : j < 10) : (List.range 10).drop j = j :: (List.range 10).drop (j + 1) := by
  rw [List.drop_eq_getElem_cons (by rw [List.length_range]; exact h), List.getElem_range]
theorem lg_all {s a : Int} : ∀ (M : List Nat), (∀ k ∈ M, k < 10) → lgL s a M ≠ -2 → ∃ k : Nat, k < 10 ∧ lgL s a M = (k : Int) - 1 ∧ s = a * sz k
  | [], _, h => absurd rfl h
  | k :: M, hM, h => by
    unfold lgL at h ⊢
    by_cases c : s = a * sz k
    · rw [if_pos c]
      exact ⟨k, hM k (by simp), rfl, c⟩
    · rw [if_neg c] at h ⊢
      exact lg_all M (fun x hx => hM x (by simp [hx])) h
def okU (t : Tu) (L : List Tu) (r : List Int) : Prop := ∀ (e : Nat) (x : Int), r[e]? = some x → InT t e → lenE L e x = 0
def gU (L : List Tu) (r : List Int) : Nat → Int := fun e => lenV L e (r.getD e 0)
def uS (t : Tu) (L : List Tu) (r : List Int) : Int := sumU t (gU L r) r.length
/-- has the tuplet a unit? -/
def UK (t : Tu) (L : List Tu) (r : List Int) : Prop := okU t L r ∧ lgT (uS t L r) t.a ≠ -2
theorem gU_at {L : List Tu} {r : List Int} {e : Nat} {x : Int} (h : r[e]? = some x) : gU L r e = lenV L e x := by
  unfold gU
  rw [List.getD_eq_getElem?_getD, h]
  rfl
theorem sumU_bd {t : Tu} {L : List Tu} {r : List Int} (hF : Fit L) : ∀ e : Nat, 0 ≤ sumU t (gU L r) e ∧ sumU t (gU L r) e ≤ 253671505920 * e
  | 0 => by simp [sumU]
  | e + 1 => by
    have h1 := sumU_bd (t := t) (r := r) hF e
    have h2 := lenV_bd hF (e : Int) (r.getD e 0)
    unfold sumU
    have h3 : gU L r e = lenV L e (r.getD e 0) := rfl
    split <;> omega
theorem ckT_fitD {ev : Int} {l : List Tu} (h : ckT ev l = 0) (j : Nat) : Fit (l.drop j) :=
  ⟨fun t ht => (ckT_fit h).one t (List.mem_of_mem_drop ht), fun e i => pr_okD h e j i⟩
theorem shr_pow (j : Nat) (h : j < 10) : (3870720 : Int) / 2 ^ j = sz j := by
  have hj : j = 0 ∨ j = 1 ∨ j = 2 ∨ j = 3 ∨ j = 4 ∨ j = 5 ∨ j = 6 ∨ j = 7 ∨ j = 8 ∨ j = 9 := by omega
  rcases hj with rfl | rfl | rfl | rfl | rfl | rfl | rfl | rfl | rfl | rfl <;> decide

set_option maxRecDepth 100000 in
set_option maxHeartbeats 12800000 in
theorem unit_any (f c a n : Int) (A b : Option Addr) (L : List Tu) (r : List Int) (m cA k d : Nat) (w : World) (hm : L.length = m) (hm2 : m ≤ 20) (h1 : TusAt w A L) (hF : Fit L) (hk : r.length = k) (hk2 : k ≤ 1000) (h2 : IntsAt w b r)
    (ht : 0 ≤ f ∧ 1 ≤ c ∧ f + c ≤ k ∧ Rt a) :
    Calls Try.prog 50 #[.agg #[.int .i64 f, .int .i64 c, .int .i64 a, .int .i64 n], .slice A m cA, .slice b k d] w fun x w' => ((UK ⟨f, c, a, n⟩ L r ∧ x = .returned (.tuple #[.int .i64 (lgT (uS ⟨f, c, a, n⟩ L r) a), .int .i64 0])) ∨ (¬ UK ⟨f, c, a, n⟩ L r ∧ x = .returned (.tuple #[.int .i64 0, .int .i64 21]))) ∧ G w w' := by
  have H1 := Lib.hid h1
  have H2 := Lib.hid h2
  have HF := Lib.hid hF
  have HN := Lib.hid (And.intro hm (And.intro hm2 (And.intro hk hk2)))
  have HT := Lib.hid ht
  obtain ⟨U, hU⟩ : ∃ z : Prop, Hid (UK ⟨f, c, a, n⟩ L r = z) := ⟨_, rfl⟩
  obtain ⟨V, hV⟩ : ∃ z : Int, Hid (lgT (uS ⟨f, c, a, n⟩ L r) a = z) := ⟨_, rfl⟩
  rw [hU.out, hV.out]
  obtain ⟨fN', hfN⟩ : ∃ z : Nat, f = (z : Int) := ⟨f.toNat, by omega⟩
  have HFN := Lib.hid hfN
  clear h1 h2 hF hm hm2 hk hk2 ht hfN
  obtain ⟨BT, hBT⟩ : ∃ z : Nat, Hid (w.heap.size = z) := ⟨_, rfl⟩
  obtain ⟨WT, hWT⟩ : ∃ z : World, Hid (w.alloc (.cells #[.int .i64 f, .int .i64 c, .int .i64 a, .int .i64 n] 52) = z) := ⟨_, rfl⟩
  have gT : G w WT := by rw [← hWT.out]; (repeat' (first | (with_reducible exact G.refl _) | (with_reducible refine G.drewN ?_ _) | (with_reducible refine G.drew ?_) | (with_reducible refine G.alloc ?_ _)))
  have HZ := Lib.hid (show Tu4 WT BT 0 ⟨f, c, a, n⟩ by
    obtain ⟨y0, y1, y2, y3⟩ := four_at (W := w) (n := BT) (a := .int .i64 f) (b := .int .i64 c) (c := .int .i64 a) (d := .int .i64 n) (t := 52) hBT.out (by rw [hWT.out]; exact G.refl _)
    exact ⟨y0, y1, y2, y3⟩)
  obtain ⟨t0, t1, t2, t3⟩ := HZ.out
  dsimp only [Nat.zero_add] at t0 t1 t2 t3
  go_enter Try.func50, Try.ntmps50
  go_wp2_with fail
  rw [hWT.out, hBT.out]
  go_wp2_with fail
  go_loopg [8, 9] c.toNat (fun q x y wr => ∃ e : Nat, x = .int .i64 (sumU ⟨f, c, a, n⟩ (gU L r) e) ∧ y = .int .i64 e ∧ q = (f + c - e).toNat ∧ f ≤ (e : Int) ∧ (e : Int) ≤ f + c ∧ Hid (∀ (e' : Nat) (x : Int), e' < e → r[e']? = some x → InT ⟨f, c, a, n⟩ e' → lenE L e' x = 0) ∧ G WT wr)
  case atStart => exact ⟨fN', by rw [sumU_low fN' (by rw [← HFN.out]; exact Int.le_refl _)], by rw [← HFN.out], by have := HT.out; have := HFN.out; omega, by have := HFN.out; omega, by have := HT.out; have := HFN.out; omega, Lib.hid (fun e' x h1 h2 h3 => by have := h3.1; have := HFN.out; dsimp only at *; omega), by (repeat' (first | (with_reducible exact G.refl _) | (with_reducible assumption) | (with_reducible refine G.drewN ?_ _) | (with_reducible refine G.drew ?_) | (with_reducible refine G.alloc ?_ _) | (with_reducible refine G.setCell ?_ (by first | (with_reducible exact Nat.le_refl _) | (simp; done) | (simp; omega) | omega) _) | (with_reducible refine G.trans ?_ (by assumption))))⟩
  case round =>
    obtain ⟨e, rfl, rfl, hq, he0, he1, hE, gr⟩ := hrel
    have HQ := Lib.hid hq
    clear hq t0 t1 t2 t3
    obtain ⟨t0, t1, t2, t3⟩ := HZ.out.later gr
    dsimp only [Nat.zero_add] at t0 t1 t2 t3
    have hsb := sumU_bd (t := ⟨f, c, a, n⟩) (L := L) (r := r) HF.out e
    have hsb2 := sumU_bd (t := ⟨f, c, a, n⟩) (L := L) (r := r) HF.out (e + 1)
    have HSN := Lib.hid (show sumU ⟨f, c, a, n⟩ (gU L r) (e + 1) = sumU ⟨f, c, a, n⟩ (gU L r) e + (if InT ⟨f, c, a, n⟩ e then gU L r e else 0) from rfl)
    have HSH := Lib.hid (fun (h : (e : Int) = f + c) => show uS ⟨f, c, a, n⟩ L r = sumU ⟨f, c, a, n⟩ (gU L r) e by
      unfold uS
      obtain ⟨dd, hdd⟩ : ∃ z : Nat, r.length = e + z := ⟨r.length - e, by have := HN.out; have := HT.out; omega⟩
      rw [hdd]
      exact sumU_high (by unfold en; dsimp only; omega) dd)
    obtain ⟨S, hS⟩ : ∃ z : Int, Hid (sumU ⟨f, c, a, n⟩ (gU L r) e = z) := ⟨_, rfl⟩
    rw [hS.out] at hsb HSN HSH ⊢
    have HSB := Lib.hid (And.intro hsb hsb2)
    clear hsb hsb2
    by_cases hel : (e : Int) < f + c
    · obtain ⟨x, hx⟩ : ∃ z, r[e]? = some z := ⟨r[e]'(by have := HN.out; have := HT.out; omega), List.getElem?_eq_getElem (by have := HN.out; have := HT.out; omega)⟩
      rcases H2.out with hz | ⟨b0, of, rfl, fc⟩
      · rw [hz] at hx; simp at hx
      have x0 := (gT.trans gr).at (fc e _ hx)
      have HX := Lib.hid hx
      have HG := Lib.hid (gU_at (L := L) hx)
      have HIT := Lib.hid (show InT ⟨f, c, a, n⟩ e from ⟨he0, hel⟩)
      have e1 : (0 : Int) ≤ (e : Int) := by omega
      have e2 : (e : Int) < (k : Int) := by have := HT.out; omega
      have q1 := IntWalk.i64_in ((e : Int) + 1) (by have := HN.out; omega)
      have HEL := Lib.hid (And.intro he0 hel)
      clear fc hx he0 he1
      have q2 := IntWalk.i64_in (S + lenV L e x) (by
        have := HSB.out
        rw [HSN.out, if_pos HIT.out, HG.out] at this
        have := HN.out
        omega)
      by_cases h0 : lenE L e x = 0
      · have H0 := Lib.hid h0
        have HS2 := Lib.hid (show sumU ⟨f, c, a, n⟩ (gU L r) (e + 1) = S + lenV L e x by rw [HSN.out, if_pos HIT.out, HG.out])
        clear h0
        go_wp2_with fail
        refine (end_any f c a n _ (by have := HT.out; omega) (by have := HT.out; have := HN.out; omega)).mono ?_
        rintro y w2 ⟨rfl, hG2⟩
        have g2 : G wr w2 := G.trans (by (repeat' (first | (with_reducible exact G.refl _) | (with_reducible refine G.drewN ?_ _) | (with_reducible refine G.drew ?_) | (with_reducible refine G.alloc ?_ _)))) hG2
        replace x0 := g2.at x0
        go_wp2_with fail
        refine (length_any A L m cA _ _ _ HN.out.1 HN.out.2.1 (H1.out.later (gT.trans (gr.trans (g2.trans (by (repeat' (first | (with_reducible exact G.refl _) | (with_reducible assumption) | (with_reducible refine G.drewN ?_ _) | (with_reducible refine G.drew ?_) | (with_reducible refine G.alloc ?_ _) | (with_reducible refine G.setCell ?_ (by first | (with_reducible exact Nat.le_refl _) | (simp; done) | (simp; omega) | omega) _) | (with_reducible refine G.trans ?_ (by assumption))))))))) HF.out).mono ?_
        rintro y w3 ⟨rfl, hG3⟩
        have g3 : G wr w3 := g2.trans (G.trans (by (repeat' (first | (with_reducible exact G.refl _) | (with_reducible refine G.drewN ?_ _) | (with_reducible refine G.drew ?_) | (with_reducible refine G.alloc ?_ _)))) hG3)
        rw [H0.out]
        go_wp2_with fail
        go_roundg (f + c - ((e + 1 : Nat) : Int)).toNat
        case measure => have := HQ.out; have := HEL.out; omega
        case rel => exact ⟨e + 1, by rw [HS2.out], by go_num, rfl, by have := HEL.out; omega, by have := HEL.out; omega, Lib.hid (fun e' z h1 h2 h3 => by
          by_cases em : e' = e
          · subst em
            rw [HX.out] at h2
            obtain rfl := Option.some.inj h2
            exact H0.out
          · exact hE.out e' z (by omega) h2 h3), gr.trans (g3.trans (by (repeat' (first | (with_reducible exact G.refl _) | (with_reducible assumption) | (with_reducible refine G.drewN ?_ _) | (with_reducible refine G.drew ?_) | (with_reducible refine G.alloc ?_ _) | (with_reducible refine G.setCell ?_ (by first | (with_reducible exact Nat.le_refl _) | (simp; done) | (simp; omega) | omega) _) | (with_reducible refine G.trans ?_ (by assumption))))))⟩
      · have HNU := Lib.hid (show ¬ U by rw [← hU.out]; exact fun h => h0 (h.1 e x HX.out HIT.out))
        obtain ⟨E, hEE⟩ : ∃ z : Int, Hid (lenE L e x = z) := ⟨_, rfl⟩
        rw [hEE.out] at h0
        have e3 : (E == 0) = false := beq_false_of_ne h0
        have e4 : (E != 0) = true := by simp [bne, e3]
        clear h0
        go_wp2_with fail
        refine (end_any f c a n _ (by have := HT.out; omega) (by have := HT.out; have := HN.out; omega)).mono ?_
        rintro y w2 ⟨rfl, hG2⟩
        have g2 : G wr w2 := G.trans (by (repeat' (first | (with_reducible exact G.refl _) | (with_reducible refine G.drewN ?_ _) | (with_reducible refine G.drew ?_) | (with_reducible refine G.alloc ?_ _)))) hG2
        replace x0 := g2.at x0
        go_wp2_with fail
        refine (length_any A L m cA _ _ _ HN.out.1 HN.out.2.1 (H1.out.later (gT.trans (gr.trans (g2.trans (by (repeat' (first | (with_reducible exact G.refl _) | (with_reducible assumption) | (with_reducible refine G.drewN ?_ _) | (with_reducible refine G.drew ?_) | (with_reducible refine G.alloc ?_ _) | (with_reducible refine G.setCell ?_ (by first | (with_reducible exact Nat.le_refl _) | (simp; done) | (simp; omega) | omega) _) | (with_reducible refine G.trans ?_ (by assumption))))))))) HF.out).mono ?_
        rintro y w3 ⟨rfl, hG3⟩
        have g3 : G wr w3 := g2.trans (G.trans (by (repeat' (first | (with_reducible exact G.refl _) | (with_reducible refine G.drewN ?_ _) | (with_reducible refine G.drew ?_) | (with_reducible refine G.alloc ?_ _)))) hG3)
        rw [hEE.out]
        go_wp2_with fail
        go_returns
        exact ⟨.inr ⟨HNU.out, rfl⟩, gT.trans (gr.trans (g3.trans (by (repeat' (first | (with_reducible exact G.refl _) | (with_reducible assumption) | (with_reducible refine G.drewN ?_ _) | (with_reducible refine G.drew ?_) | (with_reducible refine G.alloc ?_ _) | (with_reducible refine G.setCell ?_ (by first | (with_reducible exact Nat.le_refl _) | (simp; done) | (simp; omega) | omega) _) | (with_reducible refine G.trans ?_ (by assumption)))))))⟩
    · have hee : (e : Int) = f + c := by omega
      have HUS := Lib.hid (HSH.out hee)
      have HOK := Lib.hid (show okU ⟨f, c, a, n⟩ L r from fun e' x h1 h2 => hE.out e' x (by have := h2.2; unfold en at this; dsimp only at this; omega) h1 h2)
      have HV0 := Lib.hid (show V = lgL S a (List.range 10) by rw [← hV.out, HUS.out]; rfl)
      have HUI := Lib.hid (show U = (V ≠ -2) from hU.out.symm.trans (propext ⟨fun h => by rw [← hV.out]; exact h.2, fun h => ⟨HOK.out, by rw [hV.out]; exact h⟩⟩))
      have HGT := Lib.hid (gT.trans gr)
      have hef : ¬ (e : Int) < f + c := hel
      clear hee
      go_wp2_with fail
      refine (end_any f c a n _ (by have := HT.out; omega) (by have := HT.out; have := HN.out; omega)).mono ?_
      rintro y w2 ⟨rfl, hG2⟩
      have g2 : G wr w2 := G.trans (by (repeat' (first | (with_reducible exact G.refl _) | (with_reducible refine G.drewN ?_ _) | (with_reducible refine G.drew ?_) | (with_reducible refine G.alloc ?_ _)))) hG2
      have s2 := g2.at t2
      clear t0 t1 t2 t3
      have ha := HT.out.2.2.2
      obtain ⟨a0, a1⟩ := ha
      go_wp2_with fail
      go_loopg [12] 10 (fun q x wr2 => ∃ j : Nat, x = .int .i64 ((j : Int) - 1) ∧ q = 10 - j ∧ j ≤ 10 ∧ Hid (V = lgL S a ((List.range 10).drop j)) ∧ G w2 wr2)
      case atStart => exact ⟨0, by first | rfl | simp, by omega, by omega, HV0, by (repeat' (first | (with_reducible exact G.refl _) | (with_reducible assumption) | (with_reducible refine G.drewN ?_ _) | (with_reducible refine G.drew ?_) | (with_reducible refine G.alloc ?_ _) | (with_reducible refine G.setCell ?_ (by first | (with_reducible exact Nat.le_refl _) | (simp; done) | (simp; omega) | omega) _) | (with_reducible refine G.trans ?_ (by assumption))))⟩
      case round =>
        obtain ⟨j, rfl, hq2, hj, hL, gr2⟩ := hrel
        have HQ2 := Lib.hid hq2
        clear hq2
        have r2 := gr2.at s2
        by_cases hj9 : j < 10
        · have HLS := Lib.hid (show V = if S = a * sz j then (j : Int) - 1 else lgL S a ((List.range 10).drop (j + 1)) by rw [hL.out, lg_step hj9]; rfl)
          have hsz := sz_bd j
          have j0 : (j : Int) - 1 ≤ 8 := by omega
          have j1 : (j : Int) - 1 - -1 = (j : Int) := by omega
          have j2 := IntWalk.i64_in ((j : Int) - 1 - -1) (by omega)
          have j3 := IntWalk.i64_in ((j : Int) - 1 + 1) (by omega)
          have j4 := IntWalk.i64_in (j : Int) (by omega)
          have j5 : (j : Int) - 1 + 1 = (j : Int) := by omega
          have p1 : a * sz j ≤ 32 * 3870720 := Int.mul_le_mul a1 hsz.2 hsz.1 (by omega)
          have p2 : 0 ≤ a * sz j := Int.mul_nonneg (by omega) hsz.1
          have q3 := IntWalk.i64_in (a * sz j) (by omega)
          have hpw := shr_pow j hj9
          have q4 := IntWalk.wrap64_in (a * sz j) (by omega)
          have HJ := Lib.hid hj9
          clear hj9 hsz p1 p2
          by_cases hs : S = a * sz j
          · have HVJ := Lib.hid (show V = (j : Int) - 1 by rw [HLS.out, if_pos hs])
            have HUT := Lib.hid (show U from by rw [HUI.out]; have := HVJ.out; omega)
            have hs2 : (S == a * sz j) = true := by rw [hs]; simp
            have HS := Lib.hid hs
            clear hs
            go_wp2_with fail
            go_big_region
            all_goals
              go_wp2_with fail
              go_returns
              exact ⟨.inl ⟨HUT.out, by rw [HVJ.out]; first | done | rfl⟩, HGT.out.trans (g2.trans (gr2.trans (by (repeat' (first | (with_reducible exact G.refl _) | (with_reducible assumption) | (with_reducible refine G.drewN ?_ _) | (with_reducible refine G.drew ?_) | (with_reducible refine G.alloc ?_ _) | (with_reducible refine G.setCell ?_ (by first | (with_reducible exact Nat.le_refl _) | (simp; done) | (simp; omega) | omega) _) | (with_reducible refine G.trans ?_ (by assumption)))))))⟩
          · have HVJ := Lib.hid (show V = lgL S a ((List.range 10).drop (j + 1)) by rw [HLS.out, if_neg hs])
            have hs2 : (S == a * sz j) = false := beq_false_of_ne hs
            go_wp2_with fail
            go_big_region
            all_goals
              go_wp2_with fail
              go_roundg (10 - (j + 1))
              case measure => have := HQ2.out; have := HJ.out; omega
              case rel => exact ⟨j + 1, by first | rfl | go_num | (congr 1; omega), rfl, by have := HJ.out; omega, HVJ, gr2.trans (by (repeat' (first | (with_reducible exact G.refl _) | (with_reducible assumption) | (with_reducible refine G.drewN ?_ _) | (with_reducible refine G.drew ?_) | (with_reducible refine G.alloc ?_ _) | (with_reducible refine G.setCell ?_ (by first | (with_reducible exact Nat.le_refl _) | (simp; done) | (simp; omega) | omega) _) | (with_reducible refine G.trans ?_ (by assumption)))))⟩
        · have hj10 : j = 10 := by omega
          subst hj10
          have HVN := Lib.hid (show V = -2 from hL.out)
          have HNU := Lib.hid (show ¬ U from by rw [HUI.out]; exact fun h => h HVN.out)
          go_wp2_with fail
          go_returns
          exact ⟨.inr ⟨HNU.out, rfl⟩, HGT.out.trans (g2.trans (gr2.trans (by (repeat' (first | (with_reducible exact G.refl _) | (with_reducible assumption) | (with_reducible refine G.drewN ?_ _) | (with_reducible refine G.drew ?_) | (with_reducible refine G.alloc ?_ _) | (with_reducible refine G.setCell ?_ (by first | (with_reducible exact Nat.le_refl _) | (simp; done) | (simp; omega) | omega) _) | (with_reducible refine G.trans ?_ (by assumption)))))))⟩
end Go.Proofs.Ytabaiklagobimaa
