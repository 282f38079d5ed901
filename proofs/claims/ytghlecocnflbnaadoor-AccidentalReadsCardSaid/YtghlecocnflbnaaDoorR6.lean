import Derived.Test.YtghlecocnflbnaaDoorA9
/-! Accidentals: the reference's Read. -/
namespace Go.Proofs.YtghlecocnflbnaaDoor
open Go.RowKit
attribute [local go_sem] World.cell?_alloc_some

set_option maxRecDepth 100000 in
set_option maxHeartbeats 12800000 in
theorem rRead_any (f : Int) (a : Option Addr) (l : List Pl) (n c : Nat) (w : World) (hn : l.length = n) (hl : n ≤ 3000) (h1 : PlsAt w a l) :
    Calls Tryd.prog 20 #[.int .i64 f, .slice a n c] w fun e w' => ∃ v, e = .returned (.tuple #[v, .int .i64 (ckB f l)]) ∧ Row inE 3 1 w.heap.size w' v (read f l) ∧ G w w' := by
  subst hn
  obtain ⟨i0, hi, hz0, hz1, hz2⟩ := info_parts' iInfo
  have H1 := Lib.hid h1
  clear h1
  obtain ⟨R, hR⟩ : ∃ z : Int, Hid (z = ckB f l) := ⟨_, rfl⟩
  rw [← hR.out]
  have HBAD := Lib.hid (show ∀ E : Int, E ≠ 0 → R = E → read f l = [] from fun E h0 h => if_neg (by rw [← hR.out, h]; exact h0))
  by_cases hf1 : f < -7
  · have HR := Lib.hid (show R = 2 by rw [hR.out]; unfold ckB; rw [if_neg (by unfold Sg; omega)])
    go_enter Tryd.func20, Tryd.ntmps20
    go_wp2_with fail
    go_returns
    exact ⟨_, by rw [HR.out]; rfl, by rw [HBAD.out 2 (by decide) HR.out]; exact Row.nil _, by (repeat' (first | (with_reducible exact G.refl _) | (with_reducible assumption) | (with_reducible refine G.drewN ?_ _) | (with_reducible refine G.drew ?_) | (with_reducible refine G.alloc ?_ _) | (with_reducible refine G.setCell ?_ (by first | (with_reducible exact Nat.le_refl _) | (simp; done) | (simp; omega) | omega) _) | (with_reducible refine G.trans ?_ (by assumption))))⟩
  by_cases hf2 : 7 < f
  · have HR := Lib.hid (show R = 2 by rw [hR.out]; unfold ckB; rw [if_neg (by unfold Sg; omega)])
    go_enter Tryd.func20, Tryd.ntmps20
    go_wp2_with fail
    go_returns
    exact ⟨_, by rw [HR.out]; rfl, by rw [HBAD.out 2 (by decide) HR.out]; exact Row.nil _, by (repeat' (first | (with_reducible exact G.refl _) | (with_reducible assumption) | (with_reducible refine G.drewN ?_ _) | (with_reducible refine G.drew ?_) | (with_reducible refine G.alloc ?_ _) | (with_reducible refine G.setCell ?_ (by first | (with_reducible exact Nat.le_refl _) | (simp; done) | (simp; omega) | omega) _) | (with_reducible refine G.trans ?_ (by assumption))))⟩
  by_cases hl2 : 2560 < (l.length : Int)
  · have HR := Lib.hid (show R = 9 by rw [hR.out]; unfold ckB; rw [if_pos (by unfold Sg; omega), if_neg (by omega)])
    go_enter Tryd.func20, Tryd.ntmps20
    go_wp2_with fail
    go_returns
    exact ⟨_, by rw [HR.out]; rfl, by rw [HBAD.out 9 (by decide) HR.out]; exact Row.nil _, by (repeat' (first | (with_reducible exact G.refl _) | (with_reducible assumption) | (with_reducible refine G.drewN ?_ _) | (with_reducible refine G.drew ?_) | (with_reducible refine G.alloc ?_ _) | (with_reducible refine G.setCell ?_ (by first | (with_reducible exact Nat.le_refl _) | (simp; done) | (simp; omega) | omega) _) | (with_reducible refine G.trans ?_ (by assumption))))⟩
  have HSG := Lib.hid (show Sg f by unfold Sg; omega)
  have HR0 := Lib.hid (show R = ckM 0 l by rw [hR.out]; unfold ckB; rw [if_pos HSG.out, if_pos (by omega)])
  go_enter Tryd.func20, Tryd.ntmps20
  go_wp2_with fail
  refine (rStart_any f _ HSG.out).mono ?_
  rintro e w1 ⟨gf, cap, rfl, hgf, hcap, hA, hG1⟩
  have g1 : G w w1 := by (repeat' (first | (with_reducible exact G.refl _) | (with_reducible assumption) | (with_reducible refine G.drewN ?_ _) | (with_reducible refine G.drew ?_) | (with_reducible refine G.alloc ?_ _) | (with_reducible refine G.setCell ?_ (by first | (with_reducible exact Nat.le_refl _) | (simp; done) | (simp; omega) | omega) _) | (with_reducible refine G.trans ?_ (by assumption))))
  have A1 := Lib.hid hA
  have ltf : gf < w1.heap.size := cell_lt (hA 0 (by omega)).1
  have HGF := Lib.hid hgf
  have hgf' : w.heap.size ≤ gf := by have := HGF.out; simpa using this
  clear hA hgf hG1
  obtain ⟨base, hbase⟩ : ∃ z : Nat, Hid (w1.heap.size = z) := ⟨_, rfl⟩
  rw [hbase.out] at ltf
  have hwb : w.heap.size ≤ base := by have := hbase.out; have := g1.size; omega
  have hcap2 : (77 : Int) ≤ (cap : Int) := by omega
  go_wp2_with fail
  go_loopg [7, 8] l.length (fun q y x wr => ∃ (i : Nat) (B : Int) (v : Value) (M : List Int) (F : Int → Int), v = y ∧ x = .int .i64 i ∧ q = l.length - i ∧ i ≤ l.length ∧ M.length = i ∧ Hid (R = ckM B (l.drop i)) ∧ Hid (i = 0 → B = 0) ∧ Hid (∀ y, 0 < i → l[i - 1]? = some y → B = y.t) ∧ Hid (0 ≤ B) ∧ Hid (M ++ rdL F (l.drop i) = rdL (sg0 f) l) ∧ Hid (Row inE 3 1 base wr v M) ∧ Hid (Arr wr gf F) ∧ G w wr ∧ base ≤ wr.heap.size)
  case atStart => exact ⟨0, 0, _, [], sg0 f, rfl, rfl, by omega, by omega, rfl, Lib.hid HR0.out, Lib.hid (fun _ => rfl), Lib.hid (fun y h => by omega), Lib.hid (Int.le_refl _), Lib.hid rfl, Lib.hid (Row.nil _), A1, g1, by have := hbase.out; omega⟩
  case round =>
    clear A1
    obtain ⟨i, B, v, M, F, rfl, rfl, hq, hi', hM, hA, hB0, hB1, hBn, hD, hRw, A0, gr, hbs⟩ := hrel
    have HQ := Lib.hid hq
    have HM := Lib.hid hM
    clear hq
    by_cases hin : i < l.length
    · obtain ⟨⟨t, s, o, k, pr, hd, bf⟩, hp⟩ : ∃ c, l[i]? = some c := ⟨l[i], List.getElem?_eq_getElem hin⟩
      rcases H1.out with hz | ⟨bl, of, rfl, fc⟩
      · rw [hz] at hin; exact absurd hin (by simp)
      have FC := Lib.hid fc
      obtain ⟨x0, x1, x2, x3, x4, x5, x6⟩ := (fc i _ hp).later gr
      dsimp only at x0 x1 x2 x3 x4 x5 x6
      have HP := Lib.hid hp
      have b1 : (0 : Int) ≤ (i : Int) := by omega
      have b2 : (i : Int) < (l.length : Int) := by omega
      have q1 := IntWalk.i64_in ((i : Int) + 1) (by omega)
      have HSTOP := Lib.hid (show ∀ E : Int, E ≠ 0 → ckP B ⟨t, s, o, k, pr, hd, bf⟩ = E → R = E from fun E h0 h => by rw [hA.out, ckM_stop hp (by rw [h]; exact h0), h])
      have HNX := Lib.hid (show ckP B ⟨t, s, o, k, pr, hd, bf⟩ = 0 → R = ckM t (l.drop (i + 1)) from fun h => by rw [hA.out, ckM_step hp h])
      have HPV := Lib.hid (show ∀ y, 0 < i + 1 → l[i + 1 - 1]? = some y → t = y.t from fun y _ hy => by
        rw [Nat.add_sub_cancel, hp] at hy; rw [← Option.some.inj hy])
      have HD2 := Lib.hid (show (M ++ [rA F ⟨t, s, o, k, pr, hd, bf⟩]) ++ rdL (rF F ⟨t, s, o, k, pr, hd, bf⟩) (l.drop (i + 1)) = rdL (sg0 f) l by
        rw [← hD.out, rdL_step HP.out, List.append_assoc]; rfl)
      have RNE := Lib.hid (Row.ne hRw.out ltf)
      clear fc hp hD
      by_cases t0 : t < 0
      · have HR := Lib.hid (HSTOP.out 25 (by decide) (if_pos (by have := hBn.out; (try dsimp only); omega)))
        go_wp2_with fail
        have gW1 : G wr (wr.alloc (.cells #[.int .i64 t, .int .i64 s, .int .i64 o, .int .i64 k, .bool pr, .bool hd, .int .i64 bf] 42)) := by (repeat' (first | (with_reducible exact G.refl _) | (with_reducible assumption) | (with_reducible refine G.drewN ?_ _) | (with_reducible refine G.drew ?_) | (with_reducible refine G.alloc ?_ _) | (with_reducible refine G.setCell ?_ (by first | (with_reducible exact Nat.le_refl _) | (simp; done) | (simp; omega) | omega) _) | (with_reducible refine G.trans ?_ (by assumption))))
        obtain ⟨u0, u1, u2, u3, u4, u5, u6⟩ := sev_at (W := wr) rfl (G.refl (wr.alloc (.cells #[.int .i64 t, .int .i64 s, .int .i64 o, .int .i64 k, .bool pr, .bool hd, .int .i64 bf] 42)))
        have R1 := Lib.hid (hRw.out.later gW1)
        have A2 := Lib.hid (A0.out.later gW1)
        have gw1 := gr.trans gW1
        have hb1 : base ≤ (wr.alloc (.cells #[.int .i64 t, .int .i64 s, .int .i64 o, .int .i64 k, .bool pr, .bool hd, .int .i64 bf] 42)).heap.size := by have := gW1.size; omega
        have hsz1 : wr.heap.size < (wr.alloc (.cells #[.int .i64 t, .int .i64 s, .int .i64 o, .int .i64 k, .bool pr, .bool hd, .int .i64 bf] 42)).heap.size := cell_lt u0
        generalize wr.alloc (.cells #[.int .i64 t, .int .i64 s, .int .i64 o, .int .i64 k, .bool pr, .bool hd, .int .i64 bf] 42) = W1 at *
        generalize wr.heap.size = bn at *
        clear hRw A0 gr gW1 hbs x0 x1 x2 x3 x4 x5 x6
        go_big_region
        all_goals
          go_wp2_with fail
          go_returns
          exact ⟨_, by rw [HR.out]; rfl, by rw [HBAD.out 25 (by decide) HR.out]; exact Row.nil _, by (repeat' (first | (with_reducible exact G.refl _) | (with_reducible assumption) | (with_reducible refine G.drewN ?_ _) | (with_reducible refine G.drew ?_) | (with_reducible refine G.alloc ?_ _) | (with_reducible refine G.setCell ?_ (by first | (with_reducible exact Nat.le_refl _) | (simp; done) | (simp; omega) | omega) _) | (with_reducible refine G.trans ?_ (by assumption))))⟩
      have t2 : 0 ≤ t := by omega
      have t3 : decide (t < 0) = false := decide_eq_false t0
      by_cases i0' : i = 0
      · have hB := hB0.out i0'
        have HTB := Lib.hid (show B ≤ t by omega)
        have i1 : ¬ (0 < (i : Int)) := by omega
        have i2 : decide (0 < (i : Int)) = false := decide_eq_false i1
        have i3 : ¬ 0 < i := by omega
        have i4 : decide (0 < i) = false := decide_eq_false i3
        clear hB i0'
        go_wp2_with fail
        have gW1 : G wr (wr.alloc (.cells #[.int .i64 t, .int .i64 s, .int .i64 o, .int .i64 k, .bool pr, .bool hd, .int .i64 bf] 42)) := by (repeat' (first | (with_reducible exact G.refl _) | (with_reducible assumption) | (with_reducible refine G.drewN ?_ _) | (with_reducible refine G.drew ?_) | (with_reducible refine G.alloc ?_ _) | (with_reducible refine G.setCell ?_ (by first | (with_reducible exact Nat.le_refl _) | (simp; done) | (simp; omega) | omega) _) | (with_reducible refine G.trans ?_ (by assumption))))
        obtain ⟨u0, u1, u2, u3, u4, u5, u6⟩ := sev_at (W := wr) rfl (G.refl (wr.alloc (.cells #[.int .i64 t, .int .i64 s, .int .i64 o, .int .i64 k, .bool pr, .bool hd, .int .i64 bf] 42)))
        have R1 := Lib.hid (hRw.out.later gW1)
        have A2 := Lib.hid (A0.out.later gW1)
        have gw1 := gr.trans gW1
        have hb1 : base ≤ (wr.alloc (.cells #[.int .i64 t, .int .i64 s, .int .i64 o, .int .i64 k, .bool pr, .bool hd, .int .i64 bf] 42)).heap.size := by have := gW1.size; omega
        have hsz1 : wr.heap.size < (wr.alloc (.cells #[.int .i64 t, .int .i64 s, .int .i64 o, .int .i64 k, .bool pr, .bool hd, .int .i64 bf] 42)).heap.size := cell_lt u0
        generalize wr.alloc (.cells #[.int .i64 t, .int .i64 s, .int .i64 o, .int .i64 k, .bool pr, .bool hd, .int .i64 bf] 42) = W1 at *
        generalize wr.heap.size = bn at *
        clear hRw A0 gr gW1 hbs x0 x1 x2 x3 x4 x5 x6
        go_big_region
        by_cases r1 : s < 0
        · have HR := Lib.hid (HSTOP.out 18 (by decide) ((if_neg (Int.not_lt.2 HTB.out) : ckP B ⟨t, s, o, k, pr, hd, bf⟩ = _).trans (if_neg (by unfold POk; (try dsimp only); omega))))
          go_wp2_with fail
          go_returns
          exact ⟨_, by rw [HR.out]; rfl, by rw [HBAD.out 18 (by decide) HR.out]; exact Row.nil _, by (repeat' (first | (with_reducible exact G.refl _) | (with_reducible assumption) | (with_reducible refine G.drewN ?_ _) | (with_reducible refine G.drew ?_) | (with_reducible refine G.alloc ?_ _) | (with_reducible refine G.setCell ?_ (by first | (with_reducible exact Nat.le_refl _) | (simp; done) | (simp; omega) | omega) _) | (with_reducible refine G.trans ?_ (by assumption))))⟩
        by_cases r2 : 6 < s
        · have HR := Lib.hid (HSTOP.out 18 (by decide) ((if_neg (Int.not_lt.2 HTB.out) : ckP B ⟨t, s, o, k, pr, hd, bf⟩ = _).trans (if_neg (by unfold POk; (try dsimp only); omega))))
          go_wp2_with fail
          go_returns
          exact ⟨_, by rw [HR.out]; rfl, by rw [HBAD.out 18 (by decide) HR.out]; exact Row.nil _, by (repeat' (first | (with_reducible exact G.refl _) | (with_reducible assumption) | (with_reducible refine G.drewN ?_ _) | (with_reducible refine G.drew ?_) | (with_reducible refine G.alloc ?_ _) | (with_reducible refine G.setCell ?_ (by first | (with_reducible exact Nat.le_refl _) | (simp; done) | (simp; omega) | omega) _) | (with_reducible refine G.trans ?_ (by assumption))))⟩
        by_cases r5 : o < -1
        · have HR := Lib.hid (HSTOP.out 18 (by decide) ((if_neg (Int.not_lt.2 HTB.out) : ckP B ⟨t, s, o, k, pr, hd, bf⟩ = _).trans (if_neg (by unfold POk; (try dsimp only); omega))))
          go_wp2_with fail
          go_returns
          exact ⟨_, by rw [HR.out]; rfl, by rw [HBAD.out 18 (by decide) HR.out]; exact Row.nil _, by (repeat' (first | (with_reducible exact G.refl _) | (with_reducible assumption) | (with_reducible refine G.drewN ?_ _) | (with_reducible refine G.drew ?_) | (with_reducible refine G.alloc ?_ _) | (with_reducible refine G.setCell ?_ (by first | (with_reducible exact Nat.le_refl _) | (simp; done) | (simp; omega) | omega) _) | (with_reducible refine G.trans ?_ (by assumption))))⟩
        by_cases r6 : 9 < o
        · have HR := Lib.hid (HSTOP.out 18 (by decide) ((if_neg (Int.not_lt.2 HTB.out) : ckP B ⟨t, s, o, k, pr, hd, bf⟩ = _).trans (if_neg (by unfold POk; (try dsimp only); omega))))
          go_wp2_with fail
          go_returns
          exact ⟨_, by rw [HR.out]; rfl, by rw [HBAD.out 18 (by decide) HR.out]; exact Row.nil _, by (repeat' (first | (with_reducible exact G.refl _) | (with_reducible assumption) | (with_reducible refine G.drewN ?_ _) | (with_reducible refine G.drew ?_) | (with_reducible refine G.alloc ?_ _) | (with_reducible refine G.setCell ?_ (by first | (with_reducible exact Nat.le_refl _) | (simp; done) | (simp; omega) | omega) _) | (with_reducible refine G.trans ?_ (by assumption))))⟩
        have HPOS := Lib.hid (show POk s o by unfold POk; omega)
        by_cases r7 : k < 0
        · have HR := Lib.hid (HSTOP.out 11 (by decide) ((if_neg (Int.not_lt.2 HTB.out) : ckP B ⟨t, s, o, k, pr, hd, bf⟩ = _).trans ((if_pos HPOS.out).trans (if_neg (by (try dsimp only); omega)))))
          go_wp2_with fail
          go_returns
          exact ⟨_, by rw [HR.out]; rfl, by rw [HBAD.out 11 (by decide) HR.out]; exact Row.nil _, by (repeat' (first | (with_reducible exact G.refl _) | (with_reducible assumption) | (with_reducible refine G.drewN ?_ _) | (with_reducible refine G.drew ?_) | (with_reducible refine G.alloc ?_ _) | (with_reducible refine G.setCell ?_ (by first | (with_reducible exact Nat.le_refl _) | (simp; done) | (simp; omega) | omega) _) | (with_reducible refine G.trans ?_ (by assumption))))⟩
        by_cases r8 : 5 < k
        · have HR := Lib.hid (HSTOP.out 11 (by decide) ((if_neg (Int.not_lt.2 HTB.out) : ckP B ⟨t, s, o, k, pr, hd, bf⟩ = _).trans ((if_pos HPOS.out).trans (if_neg (by (try dsimp only); omega)))))
          go_wp2_with fail
          go_returns
          exact ⟨_, by rw [HR.out]; rfl, by rw [HBAD.out 11 (by decide) HR.out]; exact Row.nil _, by (repeat' (first | (with_reducible exact G.refl _) | (with_reducible assumption) | (with_reducible refine G.drewN ?_ _) | (with_reducible refine G.drew ?_) | (with_reducible refine G.alloc ?_ _) | (with_reducible refine G.setCell ?_ (by first | (with_reducible exact Nat.le_refl _) | (simp; done) | (simp; omega) | omega) _) | (with_reducible refine G.trans ?_ (by assumption))))⟩
        have HKK := Lib.hid (show 0 ≤ k ∧ k ≤ 5 by omega)
        obtain ⟨P, hP⟩ : ∃ z : Int, Hid (z = ix s o) := ⟨_, rfl⟩
        have hPb : 0 ≤ P ∧ P < 77 := by rw [hP.out]; exact ix_bd HPOS.out
        obtain ⟨p0, p1⟩ := hPb
        obtain ⟨pn, hpn⟩ : ∃ z : Nat, P = (z : Int) := ⟨P.toNat, by omega⟩
        have hpn2 : P.toNat = pn := by omega
        have p2 : pn < 77 := by omega
        obtain ⟨zc6, zf6⟩ := A2.out pn p2
        rw [← hpn] at zc6
        obtain ⟨FP, hFP⟩ : ∃ z : Int, Hid (z = F P) := ⟨_, rfl⟩
        rw [← hFP.out] at zc6
        have HPN := Lib.hid hpn
        have p9 : P < (cap : Int) := by omega
        have q3 := IntWalk.i64_in (k - 3) (by omega)
        clear hpn
        by_cases ehd : hd = true
        · subst ehd
          by_cases r9 : bf < -2
          · have HR := Lib.hid (HSTOP.out 2 (by decide) ((if_neg (Int.not_lt.2 HTB.out) : ckP B ⟨t, s, o, k, pr, true, bf⟩ = _).trans ((if_pos HPOS.out).trans ((if_pos HKK.out).trans (if_pos ⟨rfl, by unfold AOk; (try dsimp only); omega⟩)))))
            go_wp2_with fail
            go_returns
            exact ⟨_, by rw [HR.out]; rfl, by rw [HBAD.out 2 (by decide) HR.out]; exact Row.nil _, by (repeat' (first | (with_reducible exact G.refl _) | (with_reducible assumption) | (with_reducible refine G.drewN ?_ _) | (with_reducible refine G.drew ?_) | (with_reducible refine G.alloc ?_ _) | (with_reducible refine G.setCell ?_ (by first | (with_reducible exact Nat.le_refl _) | (simp; done) | (simp; omega) | omega) _) | (with_reducible refine G.trans ?_ (by assumption))))⟩
          by_cases r10 : 2 < bf
          · have HR := Lib.hid (HSTOP.out 2 (by decide) ((if_neg (Int.not_lt.2 HTB.out) : ckP B ⟨t, s, o, k, pr, true, bf⟩ = _).trans ((if_pos HPOS.out).trans ((if_pos HKK.out).trans (if_pos ⟨rfl, by unfold AOk; (try dsimp only); omega⟩)))))
            go_wp2_with fail
            go_returns
            exact ⟨_, by rw [HR.out]; rfl, by rw [HBAD.out 2 (by decide) HR.out]; exact Row.nil _, by (repeat' (first | (with_reducible exact G.refl _) | (with_reducible assumption) | (with_reducible refine G.drewN ?_ _) | (with_reducible refine G.drew ?_) | (with_reducible refine G.alloc ?_ _) | (with_reducible refine G.setCell ?_ (by first | (with_reducible exact Nat.le_refl _) | (simp; done) | (simp; omega) | omega) _) | (with_reducible refine G.trans ?_ (by assumption))))⟩
          have HBF := Lib.hid (show AOk bf by unfold AOk; omega)
          have HN := Lib.hid (HNX.out ((if_neg (Int.not_lt.2 HTB.out) : ckP B ⟨t, s, o, k, pr, true, bf⟩ = _).trans ((if_pos HPOS.out).trans ((if_pos HKK.out).trans (if_neg (fun z => z.2 HBF.out))))))
          by_cases k0 : k = 0
          · have k3 : ¬ 0 < k := by omega
            have k4 : k ≤ 0 := by omega
            have HK0 := Lib.hid k0
            clear k0
            go_wp2_with fail
            refine (rIndex_any s o _ HPOS.out).mono ?_
            rintro e w4 ⟨rfl, rfl⟩
            rw [← hP.out]
            go_wp2_with (at_builtin; refine wpList_append_own _ rfl _ _ 32 rfl base 3 i0 (.int .i64 0) 1 8 Tryd.underlying32 hi hz0 hz1 hz2 rfl (by decide) v M.length (M.flatMap inE) rfl (show Row inE 3 1 base _ v M from by repeat' (first | (with_reducible exact R1.out) | (with_reducible refine Row.al ?_ _) | (with_reducible refine Row.drw ?_) | (with_reducible refine Row.farN ?_ RNE.out _ _))) ⟨W1.heap.size, 0, none⟩ 1 1 [.int .i64 (bf)] rfl rfl (new_add _ _ [.int .i64 (bf)] _ (by simp [go_sem])) (by simp [Value.oneCell']) (by unfold maxLen; omega) (by omega) (by simp [go_sem]; omega) ?_; intro v' w6 hown' hgrow _)
            have RN := Lib.hid (Row.more (enc := inE) (M := M) (x := bf) hown')
            have AN : Hid (Arr w6 gf (F)) := Lib.hid (Arr.grown (row := v.ownBlock) (by repeat' (first | (with_reducible exact A2.out) | (with_reducible refine Arr.al ?_ _) | (with_reducible refine Arr.setN ?_ HPN.out p2 _) | (with_reducible refine Arr.later ?_ (G.drew (G.refl _))))) hgrow RNE.out)
            have gN : G w w6 := by
              refine Below.grown (B := w.heap.size) ?_ hgrow ?_ (fun k hk => by have := Row.own R1.out k hk; omega)
              · show G w _
                (repeat' (first | (with_reducible exact G.refl _) | (with_reducible assumption) | (with_reducible refine G.drewN ?_ _) | (with_reducible refine G.drew ?_) | (with_reducible refine G.alloc ?_ _) | (with_reducible refine G.setCell ?_ (by first | (with_reducible exact Nat.le_refl _) | (simp; done) | (simp; omega) | omega) _) | (with_reducible refine G.trans ?_ (by assumption))))
              · simp [go_sem]; omega
            have hsN : base ≤ w6.heap.size := by have := hgrow.size; simp [go_sem] at this; omega
            have h1 := HD2.out
            rw [show rA F ⟨t, s, o, k, pr, true, bf⟩ = bf from (if_pos HK0.out).trans (if_pos rfl), show rF F ⟨t, s, o, k, pr, true, bf⟩ = F from if_pos HK0.out] at h1
            go_roundg (l.length - (i + 1))
            case measure => have := HQ.out; omega
            case rel => exact ⟨i + 1, t, v', M ++ [bf], _, rfl, by first | rfl | simp, rfl, by omega, by rw [List.length_append, HM.out]; rfl, HN, Lib.hid (fun h => by omega), HPV, Lib.hid (by omega), Lib.hid h1, RN, AN, gN, hsN⟩
          · have k3 : 0 < k := by omega
            have HK0 := Lib.hid k0
            clear k0
            go_wp2_with fail
            refine (rIndex_any s o _ HPOS.out).mono ?_
            rintro e w4 ⟨rfl, rfl⟩
            rw [← hP.out]
            go_wp2_with (at_builtin; refine wpList_append_own _ rfl _ _ 32 rfl base 3 i0 (.int .i64 0) 1 8 Tryd.underlying32 hi hz0 hz1 hz2 rfl (by decide) v M.length (M.flatMap inE) rfl (show Row inE 3 1 base _ v M from by repeat' (first | (with_reducible exact R1.out) | (with_reducible refine Row.al ?_ _) | (with_reducible refine Row.drw ?_) | (with_reducible refine Row.farN ?_ RNE.out _ _))) ⟨W1.heap.size, 0, none⟩ 1 1 [.int .i64 (k - 3)] rfl rfl (new_add _ _ [.int .i64 (k - 3)] _ (by simp [go_sem])) (by simp [Value.oneCell']) (by unfold maxLen; omega) (by omega) (by simp [go_sem]; omega) ?_; intro v' w6 hown' hgrow _)
            have RN := Lib.hid (Row.more (enc := inE) (M := M) (x := k - 3) hown')
            have AN : Hid (Arr w6 gf (upd F P (k - 3))) := Lib.hid (Arr.grown (row := v.ownBlock) (by repeat' (first | (with_reducible exact A2.out) | (with_reducible refine Arr.al ?_ _) | (with_reducible refine Arr.setN ?_ HPN.out p2 _) | (with_reducible refine Arr.later ?_ (G.drew (G.refl _))))) hgrow RNE.out)
            have gN : G w w6 := by
              refine Below.grown (B := w.heap.size) ?_ hgrow ?_ (fun k hk => by have := Row.own R1.out k hk; omega)
              · show G w _
                (repeat' (first | (with_reducible exact G.refl _) | (with_reducible assumption) | (with_reducible refine G.drewN ?_ _) | (with_reducible refine G.drew ?_) | (with_reducible refine G.alloc ?_ _) | (with_reducible refine G.setCell ?_ (by first | (with_reducible exact Nat.le_refl _) | (simp; done) | (simp; omega) | omega) _) | (with_reducible refine G.trans ?_ (by assumption))))
              · simp [go_sem]; omega
            have hsN : base ≤ w6.heap.size := by have := hgrow.size; simp [go_sem] at this; omega
            have h1 := HD2.out
            rw [show rA F ⟨t, s, o, k, pr, true, bf⟩ = k - 3 from if_neg HK0.out, show rF F ⟨t, s, o, k, pr, true, bf⟩ = upd F P (k - 3) by rw [hP.out]; exact if_neg HK0.out] at h1
            go_roundg (l.length - (i + 1))
            case measure => have := HQ.out; omega
            case rel => exact ⟨i + 1, t, v', M ++ [k - 3], _, rfl, by first | rfl | simp, rfl, by omega, by rw [List.length_append, HM.out]; rfl, HN, Lib.hid (fun h => by omega), HPV, Lib.hid (by omega), Lib.hid h1, RN, AN, gN, hsN⟩
        · obtain rfl : hd = false := by simpa using ehd
          clear ehd
          have HN := Lib.hid (HNX.out ((if_neg (Int.not_lt.2 HTB.out) : ckP B ⟨t, s, o, k, pr, false, bf⟩ = _).trans ((if_pos HPOS.out).trans ((if_pos HKK.out).trans (if_neg (fun z => by cases z.1))))))
          by_cases k0 : k = 0
          · have k3 : ¬ 0 < k := by omega
            have k4 : k ≤ 0 := by omega
            have HK0 := Lib.hid k0
            clear k0
            go_wp2_with fail
            refine (rIndex_any s o _ HPOS.out).mono ?_
            rintro e w4 ⟨rfl, rfl⟩
            rw [← hP.out]
            go_wp2_with (at_builtin; refine wpList_append_own _ rfl _ _ 32 rfl base 3 i0 (.int .i64 0) 1 8 Tryd.underlying32 hi hz0 hz1 hz2 rfl (by decide) v M.length (M.flatMap inE) rfl (show Row inE 3 1 base _ v M from by repeat' (first | (with_reducible exact R1.out) | (with_reducible refine Row.al ?_ _) | (with_reducible refine Row.drw ?_) | (with_reducible refine Row.farN ?_ RNE.out _ _))) ⟨W1.heap.size, 0, none⟩ 1 1 [.int .i64 (FP)] rfl rfl (new_add _ _ [.int .i64 (FP)] _ (by simp [go_sem])) (by simp [Value.oneCell']) (by unfold maxLen; omega) (by omega) (by simp [go_sem]; omega) ?_; intro v' w6 hown' hgrow _)
            have RN := Lib.hid (Row.more (enc := inE) (M := M) (x := FP) hown')
            have AN : Hid (Arr w6 gf (F)) := Lib.hid (Arr.grown (row := v.ownBlock) (by repeat' (first | (with_reducible exact A2.out) | (with_reducible refine Arr.al ?_ _) | (with_reducible refine Arr.setN ?_ HPN.out p2 _) | (with_reducible refine Arr.later ?_ (G.drew (G.refl _))))) hgrow RNE.out)
            have gN : G w w6 := by
              refine Below.grown (B := w.heap.size) ?_ hgrow ?_ (fun k hk => by have := Row.own R1.out k hk; omega)
              · show G w _
                (repeat' (first | (with_reducible exact G.refl _) | (with_reducible assumption) | (with_reducible refine G.drewN ?_ _) | (with_reducible refine G.drew ?_) | (with_reducible refine G.alloc ?_ _) | (with_reducible refine G.setCell ?_ (by first | (with_reducible exact Nat.le_refl _) | (simp; done) | (simp; omega) | omega) _) | (with_reducible refine G.trans ?_ (by assumption))))
              · simp [go_sem]; omega
            have hsN : base ≤ w6.heap.size := by have := hgrow.size; simp [go_sem] at this; omega
            have h1 := HD2.out
            rw [show rA F ⟨t, s, o, k, pr, false, bf⟩ = FP by rw [hFP.out, hP.out]; exact (if_pos HK0.out).trans (if_neg (fun z => by cases z)), show rF F ⟨t, s, o, k, pr, false, bf⟩ = F from if_pos HK0.out] at h1
            go_roundg (l.length - (i + 1))
            case measure => have := HQ.out; omega
            case rel => exact ⟨i + 1, t, v', M ++ [FP], _, rfl, by first | rfl | simp, rfl, by omega, by rw [List.length_append, HM.out]; rfl, HN, Lib.hid (fun h => by omega), HPV, Lib.hid (by omega), Lib.hid h1, RN, AN, gN, hsN⟩
          · have k3 : 0 < k := by omega
            have HK0 := Lib.hid k0
            clear k0
            go_wp2_with fail
            refine (rIndex_any s o _ HPOS.out).mono ?_
            rintro e w4 ⟨rfl, rfl⟩
            rw [← hP.out]
            go_wp2_with (at_builtin; refine wpList_append_own _ rfl _ _ 32 rfl base 3 i0 (.int .i64 0) 1 8 Tryd.underlying32 hi hz0 hz1 hz2 rfl (by decide) v M.length (M.flatMap inE) rfl (show Row inE 3 1 base _ v M from by repeat' (first | (with_reducible exact R1.out) | (with_reducible refine Row.al ?_ _) | (with_reducible refine Row.drw ?_) | (with_reducible refine Row.farN ?_ RNE.out _ _))) ⟨W1.heap.size, 0, none⟩ 1 1 [.int .i64 (k - 3)] rfl rfl (new_add _ _ [.int .i64 (k - 3)] _ (by simp [go_sem])) (by simp [Value.oneCell']) (by unfold maxLen; omega) (by omega) (by simp [go_sem]; omega) ?_; intro v' w6 hown' hgrow _)
            have RN := Lib.hid (Row.more (enc := inE) (M := M) (x := k - 3) hown')
            have AN : Hid (Arr w6 gf (upd F P (k - 3))) := Lib.hid (Arr.grown (row := v.ownBlock) (by repeat' (first | (with_reducible exact A2.out) | (with_reducible refine Arr.al ?_ _) | (with_reducible refine Arr.setN ?_ HPN.out p2 _) | (with_reducible refine Arr.later ?_ (G.drew (G.refl _))))) hgrow RNE.out)
            have gN : G w w6 := by
              refine Below.grown (B := w.heap.size) ?_ hgrow ?_ (fun k hk => by have := Row.own R1.out k hk; omega)
              · show G w _
                (repeat' (first | (with_reducible exact G.refl _) | (with_reducible assumption) | (with_reducible refine G.drewN ?_ _) | (with_reducible refine G.drew ?_) | (with_reducible refine G.alloc ?_ _) | (with_reducible refine G.setCell ?_ (by first | (with_reducible exact Nat.le_refl _) | (simp; done) | (simp; omega) | omega) _) | (with_reducible refine G.trans ?_ (by assumption))))
              · simp [go_sem]; omega
            have hsN : base ≤ w6.heap.size := by have := hgrow.size; simp [go_sem] at this; omega
            have h1 := HD2.out
            rw [show rA F ⟨t, s, o, k, pr, false, bf⟩ = k - 3 from if_neg HK0.out, show rF F ⟨t, s, o, k, pr, false, bf⟩ = upd F P (k - 3) by rw [hP.out]; exact if_neg HK0.out] at h1
            go_roundg (l.length - (i + 1))
            case measure => have := HQ.out; omega
            case rel => exact ⟨i + 1, t, v', M ++ [k - 3], _, rfl, by first | rfl | simp, rfl, by omega, by rw [List.length_append, HM.out]; rfl, HN, Lib.hid (fun h => by omega), HPV, Lib.hid (by omega), Lib.hid h1, RN, AN, gN, hsN⟩
      · obtain ⟨⟨t', s', o', k', pr', hd', bf'⟩, hy⟩ : ∃ c, l[i - 1]? = some c := ⟨l[i - 1]'(by omega), List.getElem?_eq_getElem (by omega)⟩
        have hB := hB1.out _ (by omega) hy
        dsimp only at hB
        obtain ⟨y0, _, _, _, _, _, _⟩ := (FC.out (i - 1) _ hy).later gr
        dsimp only at y0
        have i1 : (0 < (i : Int)) := by omega
        have i2 : decide (0 < (i : Int)) = true := decide_eq_true i1
        have i3 : 0 < i := by omega
        have i4 : decide (0 < i) = true := decide_eq_true i3
        have j1 : (0 : Int) ≤ (i : Int) - 1 := by omega
        have j2 : (i : Int) - 1 < (l.length : Int) := by omega
        have j3 := IntWalk.i64_in ((i : Int) - 1) (by omega)
        have j4 : ((i : Int) - 1).toNat = i - 1 := by omega
        clear hy
        by_cases t1 : t < t'
        · have HR := Lib.hid (HSTOP.out 25 (by decide) (if_pos (by (try dsimp only); omega)))
          clear hB
          go_wp2_with fail
          have gW1 : G wr (wr.alloc (.cells #[.int .i64 t, .int .i64 s, .int .i64 o, .int .i64 k, .bool pr, .bool hd, .int .i64 bf] 42)) := by (repeat' (first | (with_reducible exact G.refl _) | (with_reducible assumption) | (with_reducible refine G.drewN ?_ _) | (with_reducible refine G.drew ?_) | (with_reducible refine G.alloc ?_ _) | (with_reducible refine G.setCell ?_ (by first | (with_reducible exact Nat.le_refl _) | (simp; done) | (simp; omega) | omega) _) | (with_reducible refine G.trans ?_ (by assumption))))
          obtain ⟨u0, u1, u2, u3, u4, u5, u6⟩ := sev_at (W := wr) rfl (G.refl (wr.alloc (.cells #[.int .i64 t, .int .i64 s, .int .i64 o, .int .i64 k, .bool pr, .bool hd, .int .i64 bf] 42)))
          have y1 := gW1.at y0
          have R1 := Lib.hid (hRw.out.later gW1)
          have A2 := Lib.hid (A0.out.later gW1)
          have gw1 := gr.trans gW1
          have hb1 : base ≤ (wr.alloc (.cells #[.int .i64 t, .int .i64 s, .int .i64 o, .int .i64 k, .bool pr, .bool hd, .int .i64 bf] 42)).heap.size := by have := gW1.size; omega
          have hsz1 : wr.heap.size < (wr.alloc (.cells #[.int .i64 t, .int .i64 s, .int .i64 o, .int .i64 k, .bool pr, .bool hd, .int .i64 bf] 42)).heap.size := cell_lt u0
          generalize wr.alloc (.cells #[.int .i64 t, .int .i64 s, .int .i64 o, .int .i64 k, .bool pr, .bool hd, .int .i64 bf] 42) = W1 at *
          generalize wr.heap.size = bn at *
          clear hRw A0 gr gW1 hbs x0 x1 x2 x3 x4 x5 x6
          go_big_region
          all_goals
            go_wp2_with fail
            go_returns
            exact ⟨_, by rw [HR.out]; rfl, by rw [HBAD.out 25 (by decide) HR.out]; exact Row.nil _, by (repeat' (first | (with_reducible exact G.refl _) | (with_reducible assumption) | (with_reducible refine G.drewN ?_ _) | (with_reducible refine G.drew ?_) | (with_reducible refine G.alloc ?_ _) | (with_reducible refine G.setCell ?_ (by first | (with_reducible exact Nat.le_refl _) | (simp; done) | (simp; omega) | omega) _) | (with_reducible refine G.trans ?_ (by assumption))))⟩
        · have HTB := Lib.hid (show B ≤ t by omega)
          have t4 : t' ≤ t := by omega
          have t5 : decide (t < t') = false := decide_eq_false t1
          clear hB
          go_wp2_with fail
          have gW1 : G wr (wr.alloc (.cells #[.int .i64 t, .int .i64 s, .int .i64 o, .int .i64 k, .bool pr, .bool hd, .int .i64 bf] 42)) := by (repeat' (first | (with_reducible exact G.refl _) | (with_reducible assumption) | (with_reducible refine G.drewN ?_ _) | (with_reducible refine G.drew ?_) | (with_reducible refine G.alloc ?_ _) | (with_reducible refine G.setCell ?_ (by first | (with_reducible exact Nat.le_refl _) | (simp; done) | (simp; omega) | omega) _) | (with_reducible refine G.trans ?_ (by assumption))))
          obtain ⟨u0, u1, u2, u3, u4, u5, u6⟩ := sev_at (W := wr) rfl (G.refl (wr.alloc (.cells #[.int .i64 t, .int .i64 s, .int .i64 o, .int .i64 k, .bool pr, .bool hd, .int .i64 bf] 42)))
          have y1 := gW1.at y0
          have R1 := Lib.hid (hRw.out.later gW1)
          have A2 := Lib.hid (A0.out.later gW1)
          have gw1 := gr.trans gW1
          have hb1 : base ≤ (wr.alloc (.cells #[.int .i64 t, .int .i64 s, .int .i64 o, .int .i64 k, .bool pr, .bool hd, .int .i64 bf] 42)).heap.size := by have := gW1.size; omega
          have hsz1 : wr.heap.size < (wr.alloc (.cells #[.int .i64 t, .int .i64 s, .int .i64 o, .int .i64 k, .bool pr, .bool hd, .int .i64 bf] 42)).heap.size := cell_lt u0
          generalize wr.alloc (.cells #[.int .i64 t, .int .i64 s, .int .i64 o, .int .i64 k, .bool pr, .bool hd, .int .i64 bf] 42) = W1 at *
          generalize wr.heap.size = bn at *
          clear hRw A0 gr gW1 hbs x0 x1 x2 x3 x4 x5 x6
          go_big_region
          by_cases r1 : s < 0
          · have HR := Lib.hid (HSTOP.out 18 (by decide) ((if_neg (Int.not_lt.2 HTB.out) : ckP B ⟨t, s, o, k, pr, hd, bf⟩ = _).trans (if_neg (by unfold POk; (try dsimp only); omega))))
            go_wp2_with fail
            go_returns
            exact ⟨_, by rw [HR.out]; rfl, by rw [HBAD.out 18 (by decide) HR.out]; exact Row.nil _, by (repeat' (first | (with_reducible exact G.refl _) | (with_reducible assumption) | (with_reducible refine G.drewN ?_ _) | (with_reducible refine G.drew ?_) | (with_reducible refine G.alloc ?_ _) | (with_reducible refine G.setCell ?_ (by first | (with_reducible exact Nat.le_refl _) | (simp; done) | (simp; omega) | omega) _) | (with_reducible refine G.trans ?_ (by assumption))))⟩
          by_cases r2 : 6 < s
          · have HR := Lib.hid (HSTOP.out 18 (by decide) ((if_neg (Int.not_lt.2 HTB.out) : ckP B ⟨t, s, o, k, pr, hd, bf⟩ = _).trans (if_neg (by unfold POk; (try dsimp only); omega))))
            go_wp2_with fail
            go_returns
            exact ⟨_, by rw [HR.out]; rfl, by rw [HBAD.out 18 (by decide) HR.out]; exact Row.nil _, by (repeat' (first | (with_reducible exact G.refl _) | (with_reducible assumption) | (with_reducible refine G.drewN ?_ _) | (with_reducible refine G.drew ?_) | (with_reducible refine G.alloc ?_ _) | (with_reducible refine G.setCell ?_ (by first | (with_reducible exact Nat.le_refl _) | (simp; done) | (simp; omega) | omega) _) | (with_reducible refine G.trans ?_ (by assumption))))⟩
          by_cases r5 : o < -1
          · have HR := Lib.hid (HSTOP.out 18 (by decide) ((if_neg (Int.not_lt.2 HTB.out) : ckP B ⟨t, s, o, k, pr, hd, bf⟩ = _).trans (if_neg (by unfold POk; (try dsimp only); omega))))
            go_wp2_with fail
            go_returns
            exact ⟨_, by rw [HR.out]; rfl, by rw [HBAD.out 18 (by decide) HR.out]; exact Row.nil _, by (repeat' (first | (with_reducible exact G.refl _) | (with_reducible assumption) | (with_reducible refine G.drewN ?_ _) | (with_reducible refine G.drew ?_) | (with_reducible refine G.alloc ?_ _) | (with_reducible refine G.setCell ?_ (by first | (with_reducible exact Nat.le_refl _) | (simp; done) | (simp; omega) | omega) _) | (with_reducible refine G.trans ?_ (by assumption))))⟩
          by_cases r6 : 9 < o
          · have HR := Lib.hid (HSTOP.out 18 (by decide) ((if_neg (Int.not_lt.2 HTB.out) : ckP B ⟨t, s, o, k, pr, hd, bf⟩ = _).trans (if_neg (by unfold POk; (try dsimp only); omega))))
            go_wp2_with fail
            go_returns
            exact ⟨_, by rw [HR.out]; rfl, by rw [HBAD.out 18 (by decide) HR.out]; exact Row.nil _, by (repeat' (first | (with_reducible exact G.refl _) | (with_reducible assumption) | (with_reducible refine G.drewN ?_ _) | (with_reducible refine G.drew ?_) | (with_reducible refine G.alloc ?_ _) | (with_reducible refine G.setCell ?_ (by first | (with_reducible exact Nat.le_refl _) | (simp; done) | (simp; omega) | omega) _) | (with_reducible refine G.trans ?_ (by assumption))))⟩
          have HPOS := Lib.hid (show POk s o by unfold POk; omega)
          by_cases r7 : k < 0
          · have HR := Lib.hid (HSTOP.out 11 (by decide) ((if_neg (Int.not_lt.2 HTB.out) : ckP B ⟨t, s, o, k, pr, hd, bf⟩ = _).trans ((if_pos HPOS.out).trans (if_neg (by (try dsimp only); omega)))))
            go_wp2_with fail
            go_returns
            exact ⟨_, by rw [HR.out]; rfl, by rw [HBAD.out 11 (by decide) HR.out]; exact Row.nil _, by (repeat' (first | (with_reducible exact G.refl _) | (with_reducible assumption) | (with_reducible refine G.drewN ?_ _) | (with_reducible refine G.drew ?_) | (with_reducible refine G.alloc ?_ _) | (with_reducible refine G.setCell ?_ (by first | (with_reducible exact Nat.le_refl _) | (simp; done) | (simp; omega) | omega) _) | (with_reducible refine G.trans ?_ (by assumption))))⟩
          by_cases r8 : 5 < k
          · have HR := Lib.hid (HSTOP.out 11 (by decide) ((if_neg (Int.not_lt.2 HTB.out) : ckP B ⟨t, s, o, k, pr, hd, bf⟩ = _).trans ((if_pos HPOS.out).trans (if_neg (by (try dsimp only); omega)))))
            go_wp2_with fail
            go_returns
            exact ⟨_, by rw [HR.out]; rfl, by rw [HBAD.out 11 (by decide) HR.out]; exact Row.nil _, by (repeat' (first | (with_reducible exact G.refl _) | (with_reducible assumption) | (with_reducible refine G.drewN ?_ _) | (with_reducible refine G.drew ?_) | (with_reducible refine G.alloc ?_ _) | (with_reducible refine G.setCell ?_ (by first | (with_reducible exact Nat.le_refl _) | (simp; done) | (simp; omega) | omega) _) | (with_reducible refine G.trans ?_ (by assumption))))⟩
          have HKK := Lib.hid (show 0 ≤ k ∧ k ≤ 5 by omega)
          obtain ⟨P, hP⟩ : ∃ z : Int, Hid (z = ix s o) := ⟨_, rfl⟩
          have hPb : 0 ≤ P ∧ P < 77 := by rw [hP.out]; exact ix_bd HPOS.out
          obtain ⟨p0, p1⟩ := hPb
          obtain ⟨pn, hpn⟩ : ∃ z : Nat, P = (z : Int) := ⟨P.toNat, by omega⟩
          have hpn2 : P.toNat = pn := by omega
          have p2 : pn < 77 := by omega
          obtain ⟨zc6, zf6⟩ := A2.out pn p2
          rw [← hpn] at zc6
          obtain ⟨FP, hFP⟩ : ∃ z : Int, Hid (z = F P) := ⟨_, rfl⟩
          rw [← hFP.out] at zc6
          have HPN := Lib.hid hpn
          have p9 : P < (cap : Int) := by omega
          have q3 := IntWalk.i64_in (k - 3) (by omega)
          clear hpn
          by_cases ehd : hd = true
          · subst ehd
            by_cases r9 : bf < -2
            · have HR := Lib.hid (HSTOP.out 2 (by decide) ((if_neg (Int.not_lt.2 HTB.out) : ckP B ⟨t, s, o, k, pr, true, bf⟩ = _).trans ((if_pos HPOS.out).trans ((if_pos HKK.out).trans (if_pos ⟨rfl, by unfold AOk; (try dsimp only); omega⟩)))))
              go_wp2_with fail
              go_returns
              exact ⟨_, by rw [HR.out]; rfl, by rw [HBAD.out 2 (by decide) HR.out]; exact Row.nil _, by (repeat' (first | (with_reducible exact G.refl _) | (with_reducible assumption) | (with_reducible refine G.drewN ?_ _) | (with_reducible refine G.drew ?_) | (with_reducible refine G.alloc ?_ _) | (with_reducible refine G.setCell ?_ (by first | (with_reducible exact Nat.le_refl _) | (simp; done) | (simp; omega) | omega) _) | (with_reducible refine G.trans ?_ (by assumption))))⟩
            by_cases r10 : 2 < bf
            · have HR := Lib.hid (HSTOP.out 2 (by decide) ((if_neg (Int.not_lt.2 HTB.out) : ckP B ⟨t, s, o, k, pr, true, bf⟩ = _).trans ((if_pos HPOS.out).trans ((if_pos HKK.out).trans (if_pos ⟨rfl, by unfold AOk; (try dsimp only); omega⟩)))))
              go_wp2_with fail
              go_returns
              exact ⟨_, by rw [HR.out]; rfl, by rw [HBAD.out 2 (by decide) HR.out]; exact Row.nil _, by (repeat' (first | (with_reducible exact G.refl _) | (with_reducible assumption) | (with_reducible refine G.drewN ?_ _) | (with_reducible refine G.drew ?_) | (with_reducible refine G.alloc ?_ _) | (with_reducible refine G.setCell ?_ (by first | (with_reducible exact Nat.le_refl _) | (simp; done) | (simp; omega) | omega) _) | (with_reducible refine G.trans ?_ (by assumption))))⟩
            have HBF := Lib.hid (show AOk bf by unfold AOk; omega)
            have HN := Lib.hid (HNX.out ((if_neg (Int.not_lt.2 HTB.out) : ckP B ⟨t, s, o, k, pr, true, bf⟩ = _).trans ((if_pos HPOS.out).trans ((if_pos HKK.out).trans (if_neg (fun z => z.2 HBF.out))))))
            by_cases k0 : k = 0
            · have k3 : ¬ 0 < k := by omega
              have k4 : k ≤ 0 := by omega
              have HK0 := Lib.hid k0
              clear k0
              go_wp2_with fail
              refine (rIndex_any s o _ HPOS.out).mono ?_
              rintro e w4 ⟨rfl, rfl⟩
              rw [← hP.out]
              go_wp2_with (at_builtin; refine wpList_append_own _ rfl _ _ 32 rfl base 3 i0 (.int .i64 0) 1 8 Tryd.underlying32 hi hz0 hz1 hz2 rfl (by decide) v M.length (M.flatMap inE) rfl (show Row inE 3 1 base _ v M from by repeat' (first | (with_reducible exact R1.out) | (with_reducible refine Row.al ?_ _) | (with_reducible refine Row.drw ?_) | (with_reducible refine Row.farN ?_ RNE.out _ _))) ⟨W1.heap.size, 0, none⟩ 1 1 [.int .i64 (bf)] rfl rfl (new_add _ _ [.int .i64 (bf)] _ (by simp [go_sem])) (by simp [Value.oneCell']) (by unfold maxLen; omega) (by omega) (by simp [go_sem]; omega) ?_; intro v' w6 hown' hgrow _)
              have RN := Lib.hid (Row.more (enc := inE) (M := M) (x := bf) hown')
              have AN : Hid (Arr w6 gf (F)) := Lib.hid (Arr.grown (row := v.ownBlock) (by repeat' (first | (with_reducible exact A2.out) | (with_reducible refine Arr.al ?_ _) | (with_reducible refine Arr.setN ?_ HPN.out p2 _) | (with_reducible refine Arr.later ?_ (G.drew (G.refl _))))) hgrow RNE.out)
              have gN : G w w6 := by
                refine Below.grown (B := w.heap.size) ?_ hgrow ?_ (fun k hk => by have := Row.own R1.out k hk; omega)
                · show G w _
                  (repeat' (first | (with_reducible exact G.refl _) | (with_reducible assumption) | (with_reducible refine G.drewN ?_ _) | (with_reducible refine G.drew ?_) | (with_reducible refine G.alloc ?_ _) | (with_reducible refine G.setCell ?_ (by first | (with_reducible exact Nat.le_refl _) | (simp; done) | (simp; omega) | omega) _) | (with_reducible refine G.trans ?_ (by assumption))))
                · simp [go_sem]; omega
              have hsN : base ≤ w6.heap.size := by have := hgrow.size; simp [go_sem] at this; omega
              have h1 := HD2.out
              rw [show rA F ⟨t, s, o, k, pr, true, bf⟩ = bf from (if_pos HK0.out).trans (if_pos rfl), show rF F ⟨t, s, o, k, pr, true, bf⟩ = F from if_pos HK0.out] at h1
              go_roundg (l.length - (i + 1))
              case measure => have := HQ.out; omega
              case rel => exact ⟨i + 1, t, v', M ++ [bf], _, rfl, by first | rfl | simp, rfl, by omega, by rw [List.length_append, HM.out]; rfl, HN, Lib.hid (fun h => by omega), HPV, Lib.hid (by omega), Lib.hid h1, RN, AN, gN, hsN⟩
            · have k3 : 0 < k := by omega
              have HK0 := Lib.hid k0
              clear k0
              go_wp2_with fail
              refine (rIndex_any s o _ HPOS.out).mono ?_
              rintro e w4 ⟨rfl, rfl⟩
              rw [← hP.out]
              go_wp2_with (at_builtin; refine wpList_append_own _ rfl _ _ 32 rfl base 3 i0 (.int .i64 0) 1 8 Tryd.underlying32 hi hz0 hz1 hz2 rfl (by decide) v M.length (M.flatMap inE) rfl (show Row inE 3 1 base _ v M from by repeat' (first | (with_reducible exact R1.out) | (with_reducible refine Row.al ?_ _) | (with_reducible refine Row.drw ?_) | (with_reducible refine Row.farN ?_ RNE.out _ _))) ⟨W1.heap.size, 0, none⟩ 1 1 [.int .i64 (k - 3)] rfl rfl (new_add _ _ [.int .i64 (k - 3)] _ (by simp [go_sem])) (by simp [Value.oneCell']) (by unfold maxLen; omega) (by omega) (by simp [go_sem]; omega) ?_; intro v' w6 hown' hgrow _)
              have RN := Lib.hid (Row.more (enc := inE) (M := M) (x := k - 3) hown')
              have AN : Hid (Arr w6 gf (upd F P (k - 3))) := Lib.hid (Arr.grown (row := v.ownBlock) (by repeat' (first | (with_reducible exact A2.out) | (with_reducible refine Arr.al ?_ _) | (with_reducible refine Arr.setN ?_ HPN.out p2 _) | (with_reducible refine Arr.later ?_ (G.drew (G.refl _))))) hgrow RNE.out)
              have gN : G w w6 := by
                refine Below.grown (B := w.heap.size) ?_ hgrow ?_ (fun k hk => by have := Row.own R1.out k hk; omega)
                · show G w _
                  (repeat' (first | (with_reducible exact G.refl _) | (with_reducible assumption) | (with_reducible refine G.drewN ?_ _) | (with_reducible refine G.drew ?_) | (with_reducible refine G.alloc ?_ _) | (with_reducible refine G.setCell ?_ (by first | (with_reducible exact Nat.le_refl _) | (simp; done) | (simp; omega) | omega) _) | (with_reducible refine G.trans ?_ (by assumption))))
                · simp [go_sem]; omega
              have hsN : base ≤ w6.heap.size := by have := hgrow.size; simp [go_sem] at this; omega
              have h1 := HD2.out
              rw [show rA F ⟨t, s, o, k, pr, true, bf⟩ = k - 3 from if_neg HK0.out, show rF F ⟨t, s, o, k, pr, true, bf⟩ = upd F P (k - 3) by rw [hP.out]; exact if_neg HK0.out] at h1
              go_roundg (l.length - (i + 1))
              case measure => have := HQ.out; omega
              case rel => exact ⟨i + 1, t, v', M ++ [k - 3], _, rfl, by first | rfl | simp, rfl, by omega, by rw [List.length_append, HM.out]; rfl, HN, Lib.hid (fun h => by omega), HPV, Lib.hid (by omega), Lib.hid h1, RN, AN, gN, hsN⟩
          · obtain rfl : hd = false := by simpa using ehd
            clear ehd
            have HN := Lib.hid (HNX.out ((if_neg (Int.not_lt.2 HTB.out) : ckP B ⟨t, s, o, k, pr, false, bf⟩ = _).trans ((if_pos HPOS.out).trans ((if_pos HKK.out).trans (if_neg (fun z => by cases z.1))))))
            by_cases k0 : k = 0
            · have k3 : ¬ 0 < k := by omega
              have k4 : k ≤ 0 := by omega
              have HK0 := Lib.hid k0
              clear k0
              go_wp2_with fail
              refine (rIndex_any s o _ HPOS.out).mono ?_
              rintro e w4 ⟨rfl, rfl⟩
              rw [← hP.out]
              go_wp2_with (at_builtin; refine wpList_append_own _ rfl _ _ 32 rfl base 3 i0 (.int .i64 0) 1 8 Tryd.underlying32 hi hz0 hz1 hz2 rfl (by decide) v M.length (M.flatMap inE) rfl (show Row inE 3 1 base _ v M from by repeat' (first | (with_reducible exact R1.out) | (with_reducible refine Row.al ?_ _) | (with_reducible refine Row.drw ?_) | (with_reducible refine Row.farN ?_ RNE.out _ _))) ⟨W1.heap.size, 0, none⟩ 1 1 [.int .i64 (FP)] rfl rfl (new_add _ _ [.int .i64 (FP)] _ (by simp [go_sem])) (by simp [Value.oneCell']) (by unfold maxLen; omega) (by omega) (by simp [go_sem]; omega) ?_; intro v' w6 hown' hgrow _)
              have RN := Lib.hid (Row.more (enc := inE) (M := M) (x := FP) hown')
              have AN : Hid (Arr w6 gf (F)) := Lib.hid (Arr.grown (row := v.ownBlock) (by repeat' (first | (with_reducible exact A2.out) | (with_reducible refine Arr.al ?_ _) | (with_reducible refine Arr.setN ?_ HPN.out p2 _) | (with_reducible refine Arr.later ?_ (G.drew (G.refl _))))) hgrow RNE.out)
              have gN : G w w6 := by
                refine Below.grown (B := w.heap.size) ?_ hgrow ?_ (fun k hk => by have := Row.own R1.out k hk; omega)
                · show G w _
                  (repeat' (first | (with_reducible exact G.refl _) | (with_reducible assumption) | (with_reducible refine G.drewN ?_ _) | (with_reducible refine G.drew ?_) | (with_reducible refine G.alloc ?_ _) | (with_reducible refine G.setCell ?_ (by first | (with_reducible exact Nat.le_refl _) | (simp; done) | (simp; omega) | omega) _) | (with_reducible refine G.trans ?_ (by assumption))))
                · simp [go_sem]; omega
              have hsN : base ≤ w6.heap.size := by have := hgrow.size; simp [go_sem] at this; omega
              have h1 := HD2.out
              rw [show rA F ⟨t, s, o, k, pr, false, bf⟩ = FP by rw [hFP.out, hP.out]; exact (if_pos HK0.out).trans (if_neg (fun z => by cases z)), show rF F ⟨t, s, o, k, pr, false, bf⟩ = F from if_pos HK0.out] at h1
              go_roundg (l.length - (i + 1))
              case measure => have := HQ.out; omega
              case rel => exact ⟨i + 1, t, v', M ++ [FP], _, rfl, by first | rfl | simp, rfl, by omega, by rw [List.length_append, HM.out]; rfl, HN, Lib.hid (fun h => by omega), HPV, Lib.hid (by omega), Lib.hid h1, RN, AN, gN, hsN⟩
            · have k3 : 0 < k := by omega
              have HK0 := Lib.hid k0
              clear k0
              go_wp2_with fail
              refine (rIndex_any s o _ HPOS.out).mono ?_
              rintro e w4 ⟨rfl, rfl⟩
              rw [← hP.out]
              go_wp2_with (at_builtin; refine wpList_append_own _ rfl _ _ 32 rfl base 3 i0 (.int .i64 0) 1 8 Tryd.underlying32 hi hz0 hz1 hz2 rfl (by decide) v M.length (M.flatMap inE) rfl (show Row inE 3 1 base _ v M from by repeat' (first | (with_reducible exact R1.out) | (with_reducible refine Row.al ?_ _) | (with_reducible refine Row.drw ?_) | (with_reducible refine Row.farN ?_ RNE.out _ _))) ⟨W1.heap.size, 0, none⟩ 1 1 [.int .i64 (k - 3)] rfl rfl (new_add _ _ [.int .i64 (k - 3)] _ (by simp [go_sem])) (by simp [Value.oneCell']) (by unfold maxLen; omega) (by omega) (by simp [go_sem]; omega) ?_; intro v' w6 hown' hgrow _)
              have RN := Lib.hid (Row.more (enc := inE) (M := M) (x := k - 3) hown')
              have AN : Hid (Arr w6 gf (upd F P (k - 3))) := Lib.hid (Arr.grown (row := v.ownBlock) (by repeat' (first | (with_reducible exact A2.out) | (with_reducible refine Arr.al ?_ _) | (with_reducible refine Arr.setN ?_ HPN.out p2 _) | (with_reducible refine Arr.later ?_ (G.drew (G.refl _))))) hgrow RNE.out)
              have gN : G w w6 := by
                refine Below.grown (B := w.heap.size) ?_ hgrow ?_ (fun k hk => by have := Row.own R1.out k hk; omega)
                · show G w _
                  (repeat' (first | (with_reducible exact G.refl _) | (with_reducible assumption) | (with_reducible refine G.drewN ?_ _) | (with_reducible refine G.drew ?_) | (with_reducible refine G.alloc ?_ _) | (with_reducible refine G.setCell ?_ (by first | (with_reducible exact Nat.le_refl _) | (simp; done) | (simp; omega) | omega) _) | (with_reducible refine G.trans ?_ (by assumption))))
                · simp [go_sem]; omega
              have hsN : base ≤ w6.heap.size := by have := hgrow.size; simp [go_sem] at this; omega
              have h1 := HD2.out
              rw [show rA F ⟨t, s, o, k, pr, false, bf⟩ = k - 3 from if_neg HK0.out, show rF F ⟨t, s, o, k, pr, false, bf⟩ = upd F P (k - 3) by rw [hP.out]; exact if_neg HK0.out] at h1
              go_roundg (l.length - (i + 1))
              case measure => have := HQ.out; omega
              case rel => exact ⟨i + 1, t, v', M ++ [k - 3], _, rfl, by first | rfl | simp, rfl, by omega, by rw [List.length_append, HM.out]; rfl, HN, Lib.hid (fun h => by omega), HPV, Lib.hid (by omega), Lib.hid h1, RN, AN, gN, hsN⟩
    · have hii : i = l.length := by omega
      subst hii
      have HR := Lib.hid (show R = 0 by rw [hA.out, List.drop_length]; rfl)
      have HV := Lib.hid (show M = read f l by
        unfold read
        rw [if_pos (by rw [← hR.out]; exact HR.out), ← hD.out, List.drop_length]; simp [rdL])
      go_wp2_with fail
      go_returns
      refine ⟨_, by rw [HR.out]; rfl, ?_, gr⟩
      rw [← HV.out]
      exact own_base hRw.out hwb
end Go.Proofs.YtghlecocnflbnaaDoor
