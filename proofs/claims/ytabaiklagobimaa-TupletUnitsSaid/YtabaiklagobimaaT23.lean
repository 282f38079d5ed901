import Derived.Test.YtabaiklagobimaaT22
import Derived.Test.YtabaiklagobimaaT10
import Derived.Test.YtabaiklagobimaaT9
/-! Tuplets: the reference's unit. -/
namespace Go.Proofs.Ytabaiklagobimaa
open Go.RowKit
attribute [local go_sem] World.cell?_alloc_some

theorem rScale_at (a : Option Addr) (l : List Tu) (n c k : Nat) (kk e x : Int) (w : World) (hkk : kk = (k : Int)) (hn : l.length = n) (hl : n ≤ 20) (hk : k ≤ n) (h1 : TusAt w a l) (hF : Fit (l.drop k)) (hx0 : 0 ≤ x) (hx1 : x ≤ 7741440) :
    Calls Try.prog 29 #[.slice a n c, .int .i64 kk, .int .i64 e, .int .i64 x] w fun r w' => r = .returned (.tuple #[.int .i64 (x * (prT (l.drop k) e).1 / (prT (l.drop k) e).2), .bool (decide (x * (prT (l.drop k) e).1 % (prT (l.drop k) e).2 = 0))]) ∧ G w w' := by
  subst hkk
  exact rScale_any a l n c k e x w hn hl hk h1 hF hx0 hx1

set_option maxRecDepth 100000 in
set_option maxHeartbeats 12800000 in
theorem rUnit_any (a b : Option Addr) (l : List Tu) (r : List Int) (n c m d i : Nat) (f cc aa nn : Int) (w : World) (hn : l.length = n) (hl : n ≤ 20) (hm : r.length = m) (hm2 : m ≤ 1000) (h1 : TusAt w a l) (h2 : IntsAt w b r)
    (hk : ckT m l = 0) (hx : ∀ (e : Nat) (x : Int), r[e]? = some x → 0 ≤ x ∧ x ≤ 7741440) (hp : l[i]? = some ⟨f, cc, aa, nn⟩) :
    Calls Try.prog 33 #[.slice a n c, .int .i64 i, .slice b m d] w fun x w' => ((UK ⟨f, cc, aa, nn⟩ (l.drop (i + 1)) r ∧ x = .returned (.tuple #[.int .i64 (lgI l r ⟨f, cc, aa, nn⟩ i), .bool true])) ∨ (¬ UK ⟨f, cc, aa, nn⟩ (l.drop (i + 1)) r ∧ x = .returned (.tuple #[.int .i64 0, .bool false]))) ∧ G w w' := by
  have H1 := Lib.hid h1
  have H2 := Lib.hid h2
  have HF := Lib.hid (ckT_fitD hk (i + 1))
  have HN := Lib.hid (And.intro hn (And.intro hl (And.intro hm hm2)))
  have HX := Lib.hid hx
  have hil : i < n := by have := (List.getElem?_eq_some_iff.1 hp).1; omega
  have hone := (ckT_ok hk).2.2.2.1 _ (List.mem_of_getElem? hp)
  have HT := Lib.hid (show 0 ≤ f ∧ 1 ≤ cc ∧ f + cc ≤ (m : Int) ∧ Rt aa by unfold InR at hone; dsimp only at hone; exact ⟨hone.2.1, hone.1, by omega, hone.2.2.2.1⟩)
  rcases H1.out with hz | ⟨bl, ol, rfl, fl⟩
  · rw [hz] at hp; simp at hp
  obtain ⟨x0, x1, x2, x3⟩ := fl i _ hp
  have HC := Lib.hid (show Tu4 w bl (ol + i * 4) ⟨f, cc, aa, nn⟩ from ⟨x0, x1, x2, x3⟩)
  have HI := Lib.hid hil
  have i1 : (0 : Int) ≤ (i : Int) := by omega
  have i2 : (i : Int) < (n : Int) := by omega
  have i3 := IntWalk.i64_in ((i : Int) + 1) (by omega)
  show Calls Try.prog 33 _ w fun x w' => ((UK ⟨f, cc, aa, nn⟩ (l.drop (i + 1)) r ∧ x = .returned (.tuple #[.int .i64 (lgT (uS ⟨f, cc, aa, nn⟩ (l.drop (i + 1)) r) aa), .bool true])) ∨ (¬ UK ⟨f, cc, aa, nn⟩ (l.drop (i + 1)) r ∧ x = .returned (.tuple #[.int .i64 0, .bool false]))) ∧ G w w'
  obtain ⟨L, hL⟩ : ∃ z : List Tu, Hid (l.drop (i + 1) = z) := ⟨_, rfl⟩
  rw [hL.out] at HF ⊢
  obtain ⟨U, hU⟩ : ∃ z : Prop, Hid (UK ⟨f, cc, aa, nn⟩ L r = z) := ⟨_, rfl⟩
  obtain ⟨V, hV⟩ : ∃ z : Int, Hid (lgT (uS ⟨f, cc, aa, nn⟩ L r) aa = z) := ⟨_, rfl⟩
  rw [hU.out, hV.out]
  clear h1 h2 hk hx hn hl hm hm2 fl x0 x1 x2 x3 hone hp hil
  go_enter Try.func33, Try.ntmps33
  go_wp2_with fail
  go_loopg [8, 9] m (fun q x y wr => ∃ e : Nat, x = .int .i64 (sumU ⟨f, cc, aa, nn⟩ (gU L r) e) ∧ y = .int .i64 e ∧ q = m - e ∧ e ≤ m ∧ Hid (∀ (e' : Nat) (x : Int), e' < e → r[e']? = some x → InT ⟨f, cc, aa, nn⟩ e' → lenE L e' x = 0) ∧ G w wr)
  case atStart => exact ⟨0, rfl, rfl, by omega, by omega, Lib.hid (fun e' x h => by omega), by (repeat' (first | (with_reducible exact G.refl _) | (with_reducible assumption) | (with_reducible refine G.drewN ?_ _) | (with_reducible refine G.drew ?_) | (with_reducible refine G.alloc ?_ _) | (with_reducible refine G.setCell ?_ (by first | (with_reducible exact Nat.le_refl _) | (simp; done) | (simp; omega) | omega) _) | (with_reducible refine G.trans ?_ (by assumption))))⟩
  case round =>
    obtain ⟨e, rfl, rfl, hq, he1, hE, gr⟩ := hrel
    have HQ := Lib.hid hq
    clear hq
    obtain ⟨t0, t1, t2, t3⟩ := HC.out.later gr
    dsimp only at t0 t1 t2 t3
    have hsb := sumU_bd (t := ⟨f, cc, aa, nn⟩) (L := L) (r := r) HF.out e
    have hsb2 := sumU_bd (t := ⟨f, cc, aa, nn⟩) (L := L) (r := r) HF.out (e + 1)
    have HSN := Lib.hid (show sumU ⟨f, cc, aa, nn⟩ (gU L r) (e + 1) = sumU ⟨f, cc, aa, nn⟩ (gU L r) e + (if InT ⟨f, cc, aa, nn⟩ e then gU L r e else 0) from rfl)
    have HSH := Lib.hid (fun (h : e = m) => show uS ⟨f, cc, aa, nn⟩ L r = sumU ⟨f, cc, aa, nn⟩ (gU L r) e by
      unfold uS
      rw [HN.out.2.2.1, h])
    obtain ⟨S, hS⟩ : ∃ z : Int, Hid (sumU ⟨f, cc, aa, nn⟩ (gU L r) e = z) := ⟨_, rfl⟩
    rw [hS.out] at hsb HSN HSH ⊢
    have HSB := Lib.hid (And.intro hsb hsb2)
    clear hsb hsb2
    by_cases hel : e < m
    · obtain ⟨x, hx⟩ : ∃ z, r[e]? = some z := ⟨r[e]'(by have := HN.out; omega), List.getElem?_eq_getElem (by have := HN.out; omega)⟩
      rcases H2.out with hz | ⟨b0, of, rfl, fc⟩
      · rw [hz] at hx; simp at hx
      have xr := gr.at (fc e _ hx)
      have HXX := Lib.hid hx
      have HXB := Lib.hid (HX.out e x hx)
      have HG := Lib.hid (gU_at (L := L) hx)
      have e1 : (0 : Int) ≤ (e : Int) := by omega
      have e2 : (e : Int) < (m : Int) := by omega
      have q1 := IntWalk.i64_in ((e : Int) + 1) (by have := HN.out; omega)
      have HEL := Lib.hid hel
      clear fc hx hel
      by_cases hit : InT ⟨f, cc, aa, nn⟩ e
      · have HIT := Lib.hid hit
        have HD := Lib.hid (decide_eq_true hit)
        clear hit
        have HLV := Lib.hid (show lenE L e x = (if x * (prT L e).1 % (prT L e).2 = 0 then 0 else 16) from if_pos HXB.out)
        by_cases h0 : x * (prT L e).1 % (prT L e).2 = 0
        · have H0 := Lib.hid (HLV.out.trans (if_pos h0))
          have HVV := Lib.hid (show lenV L e x = x * (prT L e).1 / (prT L e).2 by unfold lenV; rw [if_pos HXB.out, if_pos h0])
          have HS2 := Lib.hid (show sumU ⟨f, cc, aa, nn⟩ (gU L r) (e + 1) = S + lenV L e x by rw [HSN.out, if_pos HIT.out, HG.out])
          have HDD := Lib.hid (decide_eq_true h0)
          clear h0
          have q2 := IntWalk.i64_in (S + lenV L e x) (by
            have := HSB.out
            rw [HS2.out] at this
            have := HN.out
            omega)
          go_wp2_with fail
          refine (rIn_any f cc aa nn e _ (by have := HT.out; omega) (by have := HT.out; have := HN.out; omega)).mono ?_
          rintro y w2 ⟨rfl, hG2⟩
          have g2 : G wr w2 := G.trans (by (repeat' (first | (with_reducible exact G.refl _) | (with_reducible refine G.drewN ?_ _) | (with_reducible refine G.drew ?_) | (with_reducible refine G.alloc ?_ _)))) hG2
          replace xr := g2.at xr
          rw [HD.out]
          go_wp2_with fail
          refine (rScale_at _ l n c (i + 1) _ e x _ (by omega) HN.out.1 HN.out.2.1 (by have := HI.out; omega) (H1.out.later (gr.trans (g2.trans (by (repeat' (first | (with_reducible exact G.refl _) | (with_reducible assumption) | (with_reducible refine G.drewN ?_ _) | (with_reducible refine G.drew ?_) | (with_reducible refine G.alloc ?_ _) | (with_reducible refine G.setCell ?_ (by first | (with_reducible exact Nat.le_refl _) | (simp; done) | (simp; omega) | omega) _) | (with_reducible refine G.trans ?_ (by assumption)))))))) (by rw [hL.out]; exact HF.out) HXB.out.1 HXB.out.2).mono ?_
          rintro y w3 ⟨rfl, hG3⟩
          have g3 : G wr w3 := g2.trans (G.trans (by (repeat' (first | (with_reducible exact G.refl _) | (with_reducible refine G.drewN ?_ _) | (with_reducible refine G.drew ?_) | (with_reducible refine G.alloc ?_ _)))) hG3)
          rw [hL.out, HDD.out, ← HVV.out]
          go_wp2_with fail
          go_roundg (m - (e + 1))
          case measure => have := HQ.out; have := HEL.out; omega
          case rel => exact ⟨e + 1, by rw [HS2.out], by go_num, rfl, by have := HEL.out; omega, Lib.hid (fun e' z h1 h2 h3 => by
            by_cases em : e' = e
            · subst em
              rw [HXX.out] at h2
              obtain rfl := Option.some.inj h2
              exact H0.out
            · exact hE.out e' z (by omega) h2 h3), gr.trans (g3.trans (by (repeat' (first | (with_reducible exact G.refl _) | (with_reducible assumption) | (with_reducible refine G.drewN ?_ _) | (with_reducible refine G.drew ?_) | (with_reducible refine G.alloc ?_ _) | (with_reducible refine G.setCell ?_ (by first | (with_reducible exact Nat.le_refl _) | (simp; done) | (simp; omega) | omega) _) | (with_reducible refine G.trans ?_ (by assumption))))))⟩
        · have HNU := Lib.hid (show ¬ U by rw [← hU.out]; exact fun h => absurd (h.1 e x HXX.out HIT.out) (by rw [HLV.out, if_neg h0]; decide))
          have HDD := Lib.hid (decide_eq_false h0)
          clear h0
          go_wp2_with fail
          refine (rIn_any f cc aa nn e _ (by have := HT.out; omega) (by have := HT.out; have := HN.out; omega)).mono ?_
          rintro y w2 ⟨rfl, hG2⟩
          have g2 : G wr w2 := G.trans (by (repeat' (first | (with_reducible exact G.refl _) | (with_reducible refine G.drewN ?_ _) | (with_reducible refine G.drew ?_) | (with_reducible refine G.alloc ?_ _)))) hG2
          replace xr := g2.at xr
          rw [HD.out]
          go_wp2_with fail
          refine (rScale_at _ l n c (i + 1) _ e x _ (by omega) HN.out.1 HN.out.2.1 (by have := HI.out; omega) (H1.out.later (gr.trans (g2.trans (by (repeat' (first | (with_reducible exact G.refl _) | (with_reducible assumption) | (with_reducible refine G.drewN ?_ _) | (with_reducible refine G.drew ?_) | (with_reducible refine G.alloc ?_ _) | (with_reducible refine G.setCell ?_ (by first | (with_reducible exact Nat.le_refl _) | (simp; done) | (simp; omega) | omega) _) | (with_reducible refine G.trans ?_ (by assumption)))))))) (by rw [hL.out]; exact HF.out) HXB.out.1 HXB.out.2).mono ?_
          rintro y w3 ⟨rfl, hG3⟩
          have g3 : G wr w3 := g2.trans (G.trans (by (repeat' (first | (with_reducible exact G.refl _) | (with_reducible refine G.drewN ?_ _) | (with_reducible refine G.drew ?_) | (with_reducible refine G.alloc ?_ _)))) hG3)
          rw [hL.out, HDD.out]
          go_wp2_with fail
          go_returns
          exact ⟨.inr ⟨HNU.out, rfl⟩, gr.trans (g3.trans (by (repeat' (first | (with_reducible exact G.refl _) | (with_reducible assumption) | (with_reducible refine G.drewN ?_ _) | (with_reducible refine G.drew ?_) | (with_reducible refine G.alloc ?_ _) | (with_reducible refine G.setCell ?_ (by first | (with_reducible exact Nat.le_refl _) | (simp; done) | (simp; omega) | omega) _) | (with_reducible refine G.trans ?_ (by assumption))))))⟩
      · have HIT := Lib.hid hit
        have HD := Lib.hid (decide_eq_false hit)
        clear hit
        have HS2 := Lib.hid (show sumU ⟨f, cc, aa, nn⟩ (gU L r) (e + 1) = S by rw [HSN.out, if_neg HIT.out, Int.add_zero])
        go_wp2_with fail
        refine (rIn_any f cc aa nn e _ (by have := HT.out; omega) (by have := HT.out; have := HN.out; omega)).mono ?_
        rintro y w2 ⟨rfl, hG2⟩
        have g2 : G wr w2 := G.trans (by (repeat' (first | (with_reducible exact G.refl _) | (with_reducible refine G.drewN ?_ _) | (with_reducible refine G.drew ?_) | (with_reducible refine G.alloc ?_ _)))) hG2
        rw [HD.out]
        go_wp2_with fail
        go_roundg (m - (e + 1))
        case measure => have := HQ.out; have := HEL.out; omega
        case rel => exact ⟨e + 1, by rw [HS2.out], by go_num, rfl, by have := HEL.out; omega, Lib.hid (fun e' z h1 h2 h3 => by
          by_cases em : e' = e
          · subst em
            exact absurd h3 HIT.out
          · exact hE.out e' z (by omega) h2 h3), gr.trans (g2.trans (by (repeat' (first | (with_reducible exact G.refl _) | (with_reducible assumption) | (with_reducible refine G.drewN ?_ _) | (with_reducible refine G.drew ?_) | (with_reducible refine G.alloc ?_ _) | (with_reducible refine G.setCell ?_ (by first | (with_reducible exact Nat.le_refl _) | (simp; done) | (simp; omega) | omega) _) | (with_reducible refine G.trans ?_ (by assumption))))))⟩
    · have hee : e = m := by omega
      have HUS := Lib.hid (HSH.out hee)
      have HOK := Lib.hid (show okU ⟨f, cc, aa, nn⟩ L r from fun e' x h1 h2 => hE.out e' x (by have := (List.getElem?_eq_some_iff.1 h1).1; have := HN.out; omega) h1 h2)
      have HV0 := Lib.hid (show V = lgL S aa (List.range 10) by rw [← hV.out, HUS.out]; rfl)
      have HUI := Lib.hid (show U = (V ≠ -2) from hU.out.symm.trans (propext ⟨fun h => by rw [← hV.out]; exact h.2, fun h => ⟨HOK.out, by rw [hV.out]; exact h⟩⟩))
      subst hee
      go_wp2_with fail
      go_loopg [12, 13] 10 (fun q y x wr2 => ∃ j : Nat, y = .int .i64 (sz j) ∧ x = .int .i64 ((j : Int) - 1) ∧ q = 10 - j ∧ j ≤ 10 ∧ Hid (V = lgL S aa ((List.range 10).drop j)) ∧ G wr wr2)
      case atStart => exact ⟨0, rfl, by first | rfl | simp, by omega, by omega, HV0, by (repeat' (first | (with_reducible exact G.refl _) | (with_reducible assumption) | (with_reducible refine G.drewN ?_ _) | (with_reducible refine G.drew ?_) | (with_reducible refine G.alloc ?_ _) | (with_reducible refine G.setCell ?_ (by first | (with_reducible exact Nat.le_refl _) | (simp; done) | (simp; omega) | omega) _) | (with_reducible refine G.trans ?_ (by assumption))))⟩
      case round =>
        obtain ⟨j, rfl, rfl, hq2, hj, hL2, gr2⟩ := hrel
        have HQ2 := Lib.hid hq2
        clear hq2
        have r2 := gr2.at t2
        have ha := HT.out.2.2.2
        obtain ⟨a0, a1⟩ := ha
        by_cases hj9 : j < 10
        · have HLS := Lib.hid (show V = if S = aa * sz j then (j : Int) - 1 else lgL S aa ((List.range 10).drop (j + 1)) by rw [hL2.out, lg_step hj9]; rfl)
          have hsz := sz_bd j
          have hsn := sz_bd (j + 1)
          have HSZ := Lib.hid (show sz (j + 1) = sz j / 2 from rfl)
          have j0 : (j : Int) - 1 ≤ 8 := by omega
          have j3 := IntWalk.i64_in ((j : Int) - 1 + 1) (by omega)
          have j5 : (j : Int) - 1 + 1 = (j : Int) := by omega
          have p1 : aa * sz j ≤ 32 * 3870720 := Int.mul_le_mul a1 hsz.2 hsz.1 (by omega)
          have p2 : 0 ≤ aa * sz j := Int.mul_nonneg (by omega) hsz.1
          have p3 : sz j * aa = aa * sz j := Int.mul_comm _ _
          have HJ := Lib.hid hj9
          obtain ⟨Z, hZ⟩ : ∃ z : Int, Hid (sz j = z) := ⟨_, rfl⟩
          rw [hZ.out] at hsz HLS HSZ p1 p2 p3 ⊢
          rw [HSZ.out] at hsn
          have q3 := IntWalk.i64_in (Z * aa) (by omega)
          have q4 : Z.tdiv 2 = Z / 2 := Int.tdiv_eq_ediv_of_nonneg hsz.1
          have q5 := IntWalk.i64_in (Z / 2) (by omega)
          clear hj9 p1 p2 hsn hsz
          by_cases hs : S = aa * Z
          · have HVJ := Lib.hid (show V = (j : Int) - 1 by rw [HLS.out, if_pos hs])
            have HUT := Lib.hid (show U from by rw [HUI.out]; have := HVJ.out; omega)
            have hs2 : (S == Z * aa) = true := by rw [hs, p3]; simp
            clear p3
            have HS := Lib.hid hs
            clear hs
            go_wp2_with fail
            go_returns
            exact ⟨.inl ⟨HUT.out, by rw [HVJ.out]; first | done | rfl⟩, gr.trans (gr2.trans (by (repeat' (first | (with_reducible exact G.refl _) | (with_reducible assumption) | (with_reducible refine G.drewN ?_ _) | (with_reducible refine G.drew ?_) | (with_reducible refine G.alloc ?_ _) | (with_reducible refine G.setCell ?_ (by first | (with_reducible exact Nat.le_refl _) | (simp; done) | (simp; omega) | omega) _) | (with_reducible refine G.trans ?_ (by assumption))))))⟩
          · have HVJ := Lib.hid (show V = lgL S aa ((List.range 10).drop (j + 1)) by rw [HLS.out, if_neg hs])
            have hs2 : (S == Z * aa) = false := beq_false_of_ne (by rw [p3]; exact hs)
            clear p3 hs
            go_wp2_with fail
            go_roundg (10 - (j + 1))
            case measure => have := HQ2.out; have := HJ.out; omega
            case rel => exact ⟨j + 1, by rw [HSZ.out], by first | rfl | go_num | (congr 1; omega), rfl, by have := HJ.out; omega, HVJ, gr2.trans (by (repeat' (first | (with_reducible exact G.refl _) | (with_reducible assumption) | (with_reducible refine G.drewN ?_ _) | (with_reducible refine G.drew ?_) | (with_reducible refine G.alloc ?_ _) | (with_reducible refine G.setCell ?_ (by first | (with_reducible exact Nat.le_refl _) | (simp; done) | (simp; omega) | omega) _) | (with_reducible refine G.trans ?_ (by assumption)))))⟩
        · have hj10 : j = 10 := by omega
          subst hj10
          have HVN := Lib.hid (show V = -2 from hL2.out)
          have HNU := Lib.hid (show ¬ U from by rw [HUI.out]; exact fun h => h HVN.out)
          go_wp2_with fail
          go_returns
          exact ⟨.inr ⟨HNU.out, rfl⟩, gr.trans (gr2.trans (by (repeat' (first | (with_reducible exact G.refl _) | (with_reducible assumption) | (with_reducible refine G.drewN ?_ _) | (with_reducible refine G.drew ?_) | (with_reducible refine G.alloc ?_ _) | (with_reducible refine G.setCell ?_ (by first | (with_reducible exact Nat.le_refl _) | (simp; done) | (simp; omega) | omega) _) | (with_reducible refine G.trans ?_ (by assumption))))))⟩
end Go.Proofs.Ytabaiklagobimaa
