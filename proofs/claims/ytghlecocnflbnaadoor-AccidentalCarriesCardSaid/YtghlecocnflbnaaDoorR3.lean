import Derived.Test.YtghlecocnflbnaaDoorR2
/-! Accidentals: the reference's Check. -/
namespace Go.Proofs.YtghlecocnflbnaaDoor
open Go.RowKit
attribute [local go_sem] World.cell?_alloc_some

set_option maxRecDepth 100000 in
set_option maxHeartbeats 12800000 in
theorem rCheck_any (f : Int) (a : Option Addr) (l : List Nt) (n c : Nat) (w : World) (hn : l.length = n) (hl : n ≤ 3000) (h1 : NtsAt w a l) :
    Calls Tryd.prog 16 #[.int .i64 f, .slice a n c] w fun e w' => e = .returned (.int .i64 (ckA f l)) ∧ G w w' := by
  subst hn
  have H1 := Lib.hid h1
  clear h1
  obtain ⟨R, hR⟩ : ∃ z : Int, Hid (z = ckA f l) := ⟨_, rfl⟩
  rw [← hR.out]
  by_cases hf1 : f < -7
  · have HR := Lib.hid (show R = 2 by rw [hR.out]; unfold ckA; rw [if_neg (by unfold Sg; omega)])
    go_enter Tryd.func16, Tryd.ntmps16
    go_wp2_with fail
    go_ret
    exact ⟨by rw [HR.out]; rfl, by (repeat' (first | (with_reducible exact G.refl _) | (with_reducible assumption) | (with_reducible refine G.drewN ?_ _) | (with_reducible refine G.drew ?_) | (with_reducible refine G.alloc ?_ _) | (with_reducible refine G.setCell ?_ (by first | (with_reducible exact Nat.le_refl _) | (simp; done) | (simp; omega) | omega) _) | (with_reducible refine G.trans ?_ (by assumption))))⟩
  by_cases hf2 : 7 < f
  · have HR := Lib.hid (show R = 2 by rw [hR.out]; unfold ckA; rw [if_neg (by unfold Sg; omega)])
    go_enter Tryd.func16, Tryd.ntmps16
    go_wp2_with fail
    go_ret
    exact ⟨by rw [HR.out]; rfl, by (repeat' (first | (with_reducible exact G.refl _) | (with_reducible assumption) | (with_reducible refine G.drewN ?_ _) | (with_reducible refine G.drew ?_) | (with_reducible refine G.alloc ?_ _) | (with_reducible refine G.setCell ?_ (by first | (with_reducible exact Nat.le_refl _) | (simp; done) | (simp; omega) | omega) _) | (with_reducible refine G.trans ?_ (by assumption))))⟩
  by_cases hl2 : 2560 < (l.length : Int)
  · have HR := Lib.hid (show R = 9 by rw [hR.out]; unfold ckA; rw [if_pos (by unfold Sg; omega), if_neg (by omega)])
    go_enter Tryd.func16, Tryd.ntmps16
    go_wp2_with fail
    go_ret
    exact ⟨by rw [HR.out]; rfl, by (repeat' (first | (with_reducible exact G.refl _) | (with_reducible assumption) | (with_reducible refine G.drewN ?_ _) | (with_reducible refine G.drew ?_) | (with_reducible refine G.alloc ?_ _) | (with_reducible refine G.setCell ?_ (by first | (with_reducible exact Nat.le_refl _) | (simp; done) | (simp; omega) | omega) _) | (with_reducible refine G.trans ?_ (by assumption))))⟩
  have HR0 := Lib.hid (show R = ckL 0 l by rw [hR.out]; unfold ckA; rw [if_pos (by unfold Sg; omega), if_pos (by omega)])
  go_enter Tryd.func16, Tryd.ntmps16
  go_wp2_with fail
  go_loopg [5] l.length (fun q x wr => ∃ (i : Nat) (B : Int), x = .int .i64 i ∧ q = l.length - i ∧ i ≤ l.length ∧ Hid (R = ckL B (l.drop i)) ∧ Hid (i = 0 → B = 0) ∧ Hid (∀ y, 0 < i → l[i - 1]? = some y → B = y.t) ∧ Hid (0 ≤ B) ∧ G w wr)
  case atStart => exact ⟨0, 0, rfl, by omega, by omega, Lib.hid HR0.out, Lib.hid (fun _ => rfl), Lib.hid (fun y h => by omega), Lib.hid (Int.le_refl _), by (repeat' (first | (with_reducible exact G.refl _) | (with_reducible assumption) | (with_reducible refine G.drewN ?_ _) | (with_reducible refine G.drew ?_) | (with_reducible refine G.alloc ?_ _) | (with_reducible refine G.setCell ?_ (by first | (with_reducible exact Nat.le_refl _) | (simp; done) | (simp; omega) | omega) _) | (with_reducible refine G.trans ?_ (by assumption))))⟩
  case round =>
    obtain ⟨i, B, rfl, hq, hi, hA, hB0, hB1, hBn, gr⟩ := hrel
    have HQ := Lib.hid hq
    clear hq
    by_cases hin : i < l.length
    · obtain ⟨⟨t, s, al, o, hd, sh⟩, hp⟩ : ∃ c, l[i]? = some c := ⟨l[i], List.getElem?_eq_getElem hin⟩
      rcases H1.out with hz | ⟨bl, of, rfl, fc⟩
      · rw [hz] at hin; exact absurd hin (by simp)
      have FC := Lib.hid fc
      obtain ⟨x0, x1, x2, x3, x4, x5⟩ := (fc i _ hp).later gr
      dsimp only at x0 x1 x2 x3 x4 x5
      have HP := Lib.hid hp
      have b1 : (0 : Int) ≤ (i : Int) := by omega
      have b2 : (i : Int) < (l.length : Int) := by omega
      have q1 := IntWalk.i64_in ((i : Int) + 1) (by omega)
      have STOP : ∀ E : Int, E ≠ 0 → ckN B ⟨t, s, al, o, hd, sh⟩ = E → R = E := fun E h0 h => by rw [hA.out, ckL_stop hp (by rw [h]; exact h0), h]
      have HSTOP := Lib.hid STOP
      have HNX := Lib.hid (show ckN B ⟨t, s, al, o, hd, sh⟩ = 0 → R = ckL t (l.drop (i + 1)) from fun h => by rw [hA.out, ckL_step hp h])
      have HPV := Lib.hid (show ∀ y, 0 < i + 1 → l[i + 1 - 1]? = some y → t = y.t from fun y _ hy => by
        rw [Nat.add_sub_cancel, hp] at hy; rw [← Option.some.inj hy])
      clear fc hp STOP
      by_cases t0 : t < 0
      · have HR := Lib.hid (HSTOP.out 25 (by decide) (if_pos (by have := hBn.out; (try dsimp only); omega)))
        go_wp2_with fail
        go_big_region
        all_goals
          go_wp2_with fail
          go_ret
          exact ⟨by rw [HR.out]; rfl, by (repeat' (first | (with_reducible exact G.refl _) | (with_reducible assumption) | (with_reducible refine G.drewN ?_ _) | (with_reducible refine G.drew ?_) | (with_reducible refine G.alloc ?_ _) | (with_reducible refine G.setCell ?_ (by first | (with_reducible exact Nat.le_refl _) | (simp; done) | (simp; omega) | omega) _) | (with_reducible refine G.trans ?_ (by assumption))))⟩
      have t2 : 0 ≤ t := by omega
      have t3 : decide (t < 0) = false := decide_eq_false t0
      by_cases i0 : i = 0
      · have hB := hB0.out i0
        have HT := Lib.hid (show B ≤ t by omega)
        have i1 : ¬ (0 < (i : Int)) := by omega
        have i2 : decide (0 < (i : Int)) = false := decide_eq_false i1
        have i3 : ¬ 0 < i := by omega
        have i4 : decide (0 < i) = false := decide_eq_false i3
        clear hB i0
        go_wp2_with fail
        go_big_region
        by_cases r1 : s < 0
        · have HR := Lib.hid (HSTOP.out 18 (by decide) ((if_neg (Int.not_lt.2 HT.out) : ckN B ⟨t, s, al, o, hd, sh⟩ = _).trans (if_neg (by unfold POk AOk; (try dsimp only); omega))))
          go_wp2_with fail
          go_ret
          exact ⟨by rw [HR.out]; rfl, by (repeat' (first | (with_reducible exact G.refl _) | (with_reducible assumption) | (with_reducible refine G.drewN ?_ _) | (with_reducible refine G.drew ?_) | (with_reducible refine G.alloc ?_ _) | (with_reducible refine G.setCell ?_ (by first | (with_reducible exact Nat.le_refl _) | (simp; done) | (simp; omega) | omega) _) | (with_reducible refine G.trans ?_ (by assumption))))⟩
        by_cases r2 : 6 < s
        · have HR := Lib.hid (HSTOP.out 18 (by decide) ((if_neg (Int.not_lt.2 HT.out) : ckN B ⟨t, s, al, o, hd, sh⟩ = _).trans (if_neg (by unfold POk AOk; (try dsimp only); omega))))
          go_wp2_with fail
          go_ret
          exact ⟨by rw [HR.out]; rfl, by (repeat' (first | (with_reducible exact G.refl _) | (with_reducible assumption) | (with_reducible refine G.drewN ?_ _) | (with_reducible refine G.drew ?_) | (with_reducible refine G.alloc ?_ _) | (with_reducible refine G.setCell ?_ (by first | (with_reducible exact Nat.le_refl _) | (simp; done) | (simp; omega) | omega) _) | (with_reducible refine G.trans ?_ (by assumption))))⟩
        by_cases r3 : al < -2
        · have HR := Lib.hid (HSTOP.out 18 (by decide) ((if_neg (Int.not_lt.2 HT.out) : ckN B ⟨t, s, al, o, hd, sh⟩ = _).trans (if_neg (by unfold POk AOk; (try dsimp only); omega))))
          go_wp2_with fail
          go_ret
          exact ⟨by rw [HR.out]; rfl, by (repeat' (first | (with_reducible exact G.refl _) | (with_reducible assumption) | (with_reducible refine G.drewN ?_ _) | (with_reducible refine G.drew ?_) | (with_reducible refine G.alloc ?_ _) | (with_reducible refine G.setCell ?_ (by first | (with_reducible exact Nat.le_refl _) | (simp; done) | (simp; omega) | omega) _) | (with_reducible refine G.trans ?_ (by assumption))))⟩
        by_cases r4 : 2 < al
        · have HR := Lib.hid (HSTOP.out 18 (by decide) ((if_neg (Int.not_lt.2 HT.out) : ckN B ⟨t, s, al, o, hd, sh⟩ = _).trans (if_neg (by unfold POk AOk; (try dsimp only); omega))))
          go_wp2_with fail
          go_ret
          exact ⟨by rw [HR.out]; rfl, by (repeat' (first | (with_reducible exact G.refl _) | (with_reducible assumption) | (with_reducible refine G.drewN ?_ _) | (with_reducible refine G.drew ?_) | (with_reducible refine G.alloc ?_ _) | (with_reducible refine G.setCell ?_ (by first | (with_reducible exact Nat.le_refl _) | (simp; done) | (simp; omega) | omega) _) | (with_reducible refine G.trans ?_ (by assumption))))⟩
        by_cases r5 : o < -1
        · have HR := Lib.hid (HSTOP.out 18 (by decide) ((if_neg (Int.not_lt.2 HT.out) : ckN B ⟨t, s, al, o, hd, sh⟩ = _).trans (if_neg (by unfold POk AOk; (try dsimp only); omega))))
          go_wp2_with fail
          go_ret
          exact ⟨by rw [HR.out]; rfl, by (repeat' (first | (with_reducible exact G.refl _) | (with_reducible assumption) | (with_reducible refine G.drewN ?_ _) | (with_reducible refine G.drew ?_) | (with_reducible refine G.alloc ?_ _) | (with_reducible refine G.setCell ?_ (by first | (with_reducible exact Nat.le_refl _) | (simp; done) | (simp; omega) | omega) _) | (with_reducible refine G.trans ?_ (by assumption))))⟩
        by_cases r6 : 9 < o
        · have HR := Lib.hid (HSTOP.out 18 (by decide) ((if_neg (Int.not_lt.2 HT.out) : ckN B ⟨t, s, al, o, hd, sh⟩ = _).trans (if_neg (by unfold POk AOk; (try dsimp only); omega))))
          go_wp2_with fail
          go_ret
          exact ⟨by rw [HR.out]; rfl, by (repeat' (first | (with_reducible exact G.refl _) | (with_reducible assumption) | (with_reducible refine G.drewN ?_ _) | (with_reducible refine G.drew ?_) | (with_reducible refine G.alloc ?_ _) | (with_reducible refine G.setCell ?_ (by first | (with_reducible exact Nat.le_refl _) | (simp; done) | (simp; omega) | omega) _) | (with_reducible refine G.trans ?_ (by assumption))))⟩
        have HPA := Lib.hid (show POk s o ∧ AOk al by unfold POk AOk; omega)
        by_cases r7 : sh < 0
        · have HR := Lib.hid (HSTOP.out 11 (by decide) ((if_neg (Int.not_lt.2 HT.out) : ckN B ⟨t, s, al, o, hd, sh⟩ = _).trans ((if_pos HPA.out).trans (if_neg (by (try dsimp only); omega)))))
          go_wp2_with fail
          go_ret
          exact ⟨by rw [HR.out]; rfl, by (repeat' (first | (with_reducible exact G.refl _) | (with_reducible assumption) | (with_reducible refine G.drewN ?_ _) | (with_reducible refine G.drew ?_) | (with_reducible refine G.alloc ?_ _) | (with_reducible refine G.setCell ?_ (by first | (with_reducible exact Nat.le_refl _) | (simp; done) | (simp; omega) | omega) _) | (with_reducible refine G.trans ?_ (by assumption))))⟩
        by_cases r8 : 2 < sh
        · have HR := Lib.hid (HSTOP.out 11 (by decide) ((if_neg (Int.not_lt.2 HT.out) : ckN B ⟨t, s, al, o, hd, sh⟩ = _).trans ((if_pos HPA.out).trans (if_neg (by (try dsimp only); omega)))))
          go_wp2_with fail
          go_ret
          exact ⟨by rw [HR.out]; rfl, by (repeat' (first | (with_reducible exact G.refl _) | (with_reducible assumption) | (with_reducible refine G.drewN ?_ _) | (with_reducible refine G.drew ?_) | (with_reducible refine G.alloc ?_ _) | (with_reducible refine G.setCell ?_ (by first | (with_reducible exact Nat.le_refl _) | (simp; done) | (simp; omega) | omega) _) | (with_reducible refine G.trans ?_ (by assumption))))⟩
        have HN := Lib.hid (HNX.out ((if_neg (Int.not_lt.2 HT.out) : ckN B ⟨t, s, al, o, hd, sh⟩ = _).trans ((if_pos HPA.out).trans (if_pos (by (try dsimp only); omega)))))
        go_wp2_with fail
        go_roundg (l.length - (i + 1))
        case measure => have := HQ.out; omega
        case rel => exact ⟨i + 1, t, by first | rfl | simp, rfl, by omega, HN, Lib.hid (fun h => by omega), HPV, Lib.hid (by omega), by (repeat' (first | (with_reducible exact G.refl _) | (with_reducible assumption) | (with_reducible refine G.drewN ?_ _) | (with_reducible refine G.drew ?_) | (with_reducible refine G.alloc ?_ _) | (with_reducible refine G.setCell ?_ (by first | (with_reducible exact Nat.le_refl _) | (simp; done) | (simp; omega) | omega) _) | (with_reducible refine G.trans ?_ (by assumption))))⟩
      · obtain ⟨⟨t', s', al', o', hd', sh'⟩, hy⟩ : ∃ c, l[i - 1]? = some c := ⟨l[i - 1]'(by omega), List.getElem?_eq_getElem (by omega)⟩
        have hB := hB1.out _ (by omega) hy
        dsimp only at hB
        obtain ⟨y0, _, _, _, _, _⟩ := (FC.out (i - 1) _ hy).later gr
        dsimp only at y0
        have i1 : (0 < (i : Int)) := by omega
        have i2 : decide (0 < (i : Int)) = true := decide_eq_true i1
        have i3 : 0 < i := by omega
        have i4 : decide (0 < i) = true := decide_eq_true i3
        have j1 : (0 : Int) ≤ (i : Int) - 1 := by omega
        have j2 : (i : Int) - 1 < (l.length : Int) := by omega
        have j3 := IntWalk.i64_in ((i : Int) - 1) (by omega)
        have j4 : ((i : Int) - 1).toNat = i - 1 := by omega
        clear hy
        by_cases t1 : t < t'
        · have HR := Lib.hid (HSTOP.out 25 (by decide) (if_pos (by (try dsimp only); omega)))
          clear hB
          go_wp2_with fail
          go_big_region
          all_goals
            go_wp2_with fail
            go_ret
            exact ⟨by rw [HR.out]; rfl, by (repeat' (first | (with_reducible exact G.refl _) | (with_reducible assumption) | (with_reducible refine G.drewN ?_ _) | (with_reducible refine G.drew ?_) | (with_reducible refine G.alloc ?_ _) | (with_reducible refine G.setCell ?_ (by first | (with_reducible exact Nat.le_refl _) | (simp; done) | (simp; omega) | omega) _) | (with_reducible refine G.trans ?_ (by assumption))))⟩
        · have HT := Lib.hid (show B ≤ t by omega)
          have t4 : t' ≤ t := by omega
          have t5 : decide (t < t') = false := decide_eq_false t1
          clear hB
          go_wp2_with fail
          go_big_region
          by_cases r1 : s < 0
          · have HR := Lib.hid (HSTOP.out 18 (by decide) ((if_neg (Int.not_lt.2 HT.out) : ckN B ⟨t, s, al, o, hd, sh⟩ = _).trans (if_neg (by unfold POk AOk; (try dsimp only); omega))))
            go_wp2_with fail
            go_ret
            exact ⟨by rw [HR.out]; rfl, by (repeat' (first | (with_reducible exact G.refl _) | (with_reducible assumption) | (with_reducible refine G.drewN ?_ _) | (with_reducible refine G.drew ?_) | (with_reducible refine G.alloc ?_ _) | (with_reducible refine G.setCell ?_ (by first | (with_reducible exact Nat.le_refl _) | (simp; done) | (simp; omega) | omega) _) | (with_reducible refine G.trans ?_ (by assumption))))⟩
          by_cases r2 : 6 < s
          · have HR := Lib.hid (HSTOP.out 18 (by decide) ((if_neg (Int.not_lt.2 HT.out) : ckN B ⟨t, s, al, o, hd, sh⟩ = _).trans (if_neg (by unfold POk AOk; (try dsimp only); omega))))
            go_wp2_with fail
            go_ret
            exact ⟨by rw [HR.out]; rfl, by (repeat' (first | (with_reducible exact G.refl _) | (with_reducible assumption) | (with_reducible refine G.drewN ?_ _) | (with_reducible refine G.drew ?_) | (with_reducible refine G.alloc ?_ _) | (with_reducible refine G.setCell ?_ (by first | (with_reducible exact Nat.le_refl _) | (simp; done) | (simp; omega) | omega) _) | (with_reducible refine G.trans ?_ (by assumption))))⟩
          by_cases r3 : al < -2
          · have HR := Lib.hid (HSTOP.out 18 (by decide) ((if_neg (Int.not_lt.2 HT.out) : ckN B ⟨t, s, al, o, hd, sh⟩ = _).trans (if_neg (by unfold POk AOk; (try dsimp only); omega))))
            go_wp2_with fail
            go_ret
            exact ⟨by rw [HR.out]; rfl, by (repeat' (first | (with_reducible exact G.refl _) | (with_reducible assumption) | (with_reducible refine G.drewN ?_ _) | (with_reducible refine G.drew ?_) | (with_reducible refine G.alloc ?_ _) | (with_reducible refine G.setCell ?_ (by first | (with_reducible exact Nat.le_refl _) | (simp; done) | (simp; omega) | omega) _) | (with_reducible refine G.trans ?_ (by assumption))))⟩
          by_cases r4 : 2 < al
          · have HR := Lib.hid (HSTOP.out 18 (by decide) ((if_neg (Int.not_lt.2 HT.out) : ckN B ⟨t, s, al, o, hd, sh⟩ = _).trans (if_neg (by unfold POk AOk; (try dsimp only); omega))))
            go_wp2_with fail
            go_ret
            exact ⟨by rw [HR.out]; rfl, by (repeat' (first | (with_reducible exact G.refl _) | (with_reducible assumption) | (with_reducible refine G.drewN ?_ _) | (with_reducible refine G.drew ?_) | (with_reducible refine G.alloc ?_ _) | (with_reducible refine G.setCell ?_ (by first | (with_reducible exact Nat.le_refl _) | (simp; done) | (simp; omega) | omega) _) | (with_reducible refine G.trans ?_ (by assumption))))⟩
          by_cases r5 : o < -1
          · have HR := Lib.hid (HSTOP.out 18 (by decide) ((if_neg (Int.not_lt.2 HT.out) : ckN B ⟨t, s, al, o, hd, sh⟩ = _).trans (if_neg (by unfold POk AOk; (try dsimp only); omega))))
            go_wp2_with fail
            go_ret
            exact ⟨by rw [HR.out]; rfl, by (repeat' (first | (with_reducible exact G.refl _) | (with_reducible assumption) | (with_reducible refine G.drewN ?_ _) | (with_reducible refine G.drew ?_) | (with_reducible refine G.alloc ?_ _) | (with_reducible refine G.setCell ?_ (by first | (with_reducible exact Nat.le_refl _) | (simp; done) | (simp; omega) | omega) _) | (with_reducible refine G.trans ?_ (by assumption))))⟩
          by_cases r6 : 9 < o
          · have HR := Lib.hid (HSTOP.out 18 (by decide) ((if_neg (Int.not_lt.2 HT.out) : ckN B ⟨t, s, al, o, hd, sh⟩ = _).trans (if_neg (by unfold POk AOk; (try dsimp only); omega))))
            go_wp2_with fail
            go_ret
            exact ⟨by rw [HR.out]; rfl, by (repeat' (first | (with_reducible exact G.refl _) | (with_reducible assumption) | (with_reducible refine G.drewN ?_ _) | (with_reducible refine G.drew ?_) | (with_reducible refine G.alloc ?_ _) | (with_reducible refine G.setCell ?_ (by first | (with_reducible exact Nat.le_refl _) | (simp; done) | (simp; omega) | omega) _) | (with_reducible refine G.trans ?_ (by assumption))))⟩
          have HPA := Lib.hid (show POk s o ∧ AOk al by unfold POk AOk; omega)
          by_cases r7 : sh < 0
          · have HR := Lib.hid (HSTOP.out 11 (by decide) ((if_neg (Int.not_lt.2 HT.out) : ckN B ⟨t, s, al, o, hd, sh⟩ = _).trans ((if_pos HPA.out).trans (if_neg (by (try dsimp only); omega)))))
            go_wp2_with fail
            go_ret
            exact ⟨by rw [HR.out]; rfl, by (repeat' (first | (with_reducible exact G.refl _) | (with_reducible assumption) | (with_reducible refine G.drewN ?_ _) | (with_reducible refine G.drew ?_) | (with_reducible refine G.alloc ?_ _) | (with_reducible refine G.setCell ?_ (by first | (with_reducible exact Nat.le_refl _) | (simp; done) | (simp; omega) | omega) _) | (with_reducible refine G.trans ?_ (by assumption))))⟩
          by_cases r8 : 2 < sh
          · have HR := Lib.hid (HSTOP.out 11 (by decide) ((if_neg (Int.not_lt.2 HT.out) : ckN B ⟨t, s, al, o, hd, sh⟩ = _).trans ((if_pos HPA.out).trans (if_neg (by (try dsimp only); omega)))))
            go_wp2_with fail
            go_ret
            exact ⟨by rw [HR.out]; rfl, by (repeat' (first | (with_reducible exact G.refl _) | (with_reducible assumption) | (with_reducible refine G.drewN ?_ _) | (with_reducible refine G.drew ?_) | (with_reducible refine G.alloc ?_ _) | (with_reducible refine G.setCell ?_ (by first | (with_reducible exact Nat.le_refl _) | (simp; done) | (simp; omega) | omega) _) | (with_reducible refine G.trans ?_ (by assumption))))⟩
          have HN := Lib.hid (HNX.out ((if_neg (Int.not_lt.2 HT.out) : ckN B ⟨t, s, al, o, hd, sh⟩ = _).trans ((if_pos HPA.out).trans (if_pos (by (try dsimp only); omega)))))
          go_wp2_with fail
          go_roundg (l.length - (i + 1))
          case measure => have := HQ.out; omega
          case rel => exact ⟨i + 1, t, by first | rfl | simp, rfl, by omega, HN, Lib.hid (fun h => by omega), HPV, Lib.hid (by omega), by (repeat' (first | (with_reducible exact G.refl _) | (with_reducible assumption) | (with_reducible refine G.drewN ?_ _) | (with_reducible refine G.drew ?_) | (with_reducible refine G.alloc ?_ _) | (with_reducible refine G.setCell ?_ (by first | (with_reducible exact Nat.le_refl _) | (simp; done) | (simp; omega) | omega) _) | (with_reducible refine G.trans ?_ (by assumption))))⟩
    · have hii : i = l.length := by omega
      subst hii
      have HR := Lib.hid (show R = 0 by rw [hA.out, List.drop_length]; rfl)
      go_wp2_with fail
      go_ret
      exact ⟨by rw [HR.out]; rfl, by (repeat' (first | (with_reducible exact G.refl _) | (with_reducible assumption) | (with_reducible refine G.drewN ?_ _) | (with_reducible refine G.drew ?_) | (with_reducible refine G.alloc ?_ _) | (with_reducible refine G.setCell ?_ (by first | (with_reducible exact Nat.le_refl _) | (simp; done) | (simp; omega) | omega) _) | (with_reducible refine G.trans ?_ (by assumption))))⟩
end Go.Proofs.YtghlecocnflbnaaDoor
