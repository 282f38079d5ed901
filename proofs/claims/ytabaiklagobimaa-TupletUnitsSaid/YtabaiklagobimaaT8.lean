import Derived.Test.YtabaiklagobimaaKnown
import Derived.Deep.AppendLies
import Derived.Maps.AppendAt
import Derived.Lib.AppendIntMem
/-! Tuplets: the reference's tuplets; depth and ratio. -/
namespace Go.Proofs.Ytabaiklagobimaa
open Go.RowKit
attribute [local go_sem] World.cell?_alloc_some

set_option maxRecDepth 100000 in
set_option maxHeartbeats 6400000 in
theorem to_any (a : Option Addr) (l : List Tu) (n c : Nat) (w : World) (hn : l.length = n) (hl : n ≤ 20) (h1 : TusAt w a l) :
    Calls Try.prog 16 #[.slice a n c] w fun e w' => ∃ v, e = .returned v ∧ Row tuE 39 4 w.heap.size w' v l ∧ G w w' := by
  subst hn
  obtain ⟨i0, hi0, hz0, hz1, hz2⟩ := info_parts' rInfo
  have H1 := Lib.hid h1
  clear h1
  go_enter Try.func16, Try.ntmps16
  go_wp2_with fail
  go_loopg [3, 4] l.length (fun q y x wr => ∃ (i : Nat) (v : Value), v = y ∧ x = .int .i64 i ∧ q = l.length - i ∧ i ≤ l.length ∧ Hid (Row tuE 39 4 w.heap.size wr v (l.take i)) ∧ G w wr)
  case atStart => exact ⟨0, _, rfl, rfl, by omega, by omega, Lib.hid (by simpa using Row.nil (enc := tuE) w), by (repeat' (first | (with_reducible exact G.refl _) | (with_reducible assumption) | (with_reducible refine G.drewN ?_ _) | (with_reducible refine G.drew ?_) | (with_reducible refine G.alloc ?_ _) | (with_reducible refine G.setCell ?_ (by first | (with_reducible exact Nat.le_refl _) | (simp; done) | (simp; omega) | omega) _) | (with_reducible refine G.trans ?_ (by assumption))))⟩
  case round =>
    obtain ⟨i, v, rfl, rfl, hq, hi', hR, gr⟩ := hrel
    have HQ := Lib.hid hq
    clear hq
    by_cases hin : i < l.length
    · obtain ⟨⟨f, cc, aa, nn⟩, hp⟩ : ∃ c, l[i]? = some c := ⟨l[i], List.getElem?_eq_getElem hin⟩
      rcases H1.out with hz | ⟨bl, of, rfl, fc⟩
      · rw [hz] at hin; exact absurd hin (by simp)
      obtain ⟨x0, x1, x2, x3⟩ := (fc i _ hp).later gr
      dsimp only at x0 x1 x2 x3
      have HX := Lib.hid (show l.take (i + 1) = l.take i ++ [⟨f, cc, aa, nn⟩] by rw [List.take_add_one, hp]; rfl)
      have HLT := Lib.hid (show (l.take i).length = i by rw [List.length_take]; omega)
      have b1 : (0 : Int) ≤ (i : Int) := by omega
      have b2 : (i : Int) < (l.length : Int) := by omega
      have b3 : (i : Int) < 20 := by omega
      have q1 := IntWalk.i64_in ((i : Int) + 1) (by omega)
      have hsz := gr.size
      clear fc hp
      go_wp2_with (at_builtin; refine wpList_append_own _ rfl _ _ 27 rfl w.heap.size 39 i0 (.agg #[.int .i64 0, .int .i64 0, .int .i64 0, .int .i64 0]) 4 32 Try.underlying27 hi0 hz0 hz1 hz2 rfl (by decide) v (l.take i).length ((l.take i).flatMap tuE) rfl (hR.out.later (by (repeat' (first | (with_reducible exact G.refl _) | (with_reducible assumption) | (with_reducible refine G.drewN ?_ _) | (with_reducible refine G.drew ?_) | (with_reducible refine G.alloc ?_ _) | (with_reducible refine G.setCell ?_ (by first | (with_reducible exact Nat.le_refl _) | (simp; done) | (simp; omega) | omega) _) | (with_reducible refine G.trans ?_ (by assumption)))))) ⟨wr.heap.size, 0, none⟩ 1 1 [.int .i64 f, .int .i64 cc, .int .i64 aa, .int .i64 nn] rfl rfl (new_add _ _ [.int .i64 f, .int .i64 cc, .int .i64 aa, .int .i64 nn] _ (by simp)) (by simp [Value.oneCell']) (by unfold maxLen; rw [HLT.out]; omega) (by rw [HLT.out]; omega) (by simp; omega) ?_; intro v' w6 hown' hgrow _)
      have RN := Lib.hid (Row.more (enc := tuE) (M := l.take i) (x := ⟨f, cc, aa, nn⟩) hown')
      have gN : G w w6 := Below.grown (B := w.heap.size) (show G w _ by (repeat' (first | (with_reducible exact G.refl _) | (with_reducible assumption) | (with_reducible refine G.drewN ?_ _) | (with_reducible refine G.drew ?_) | (with_reducible refine G.alloc ?_ _) | (with_reducible refine G.setCell ?_ (by first | (with_reducible exact Nat.le_refl _) | (simp; done) | (simp; omega) | omega) _) | (with_reducible refine G.trans ?_ (by assumption))))) hgrow (by simp; omega) (fun k hk => hR.out.own k hk)
      go_roundg (l.length - (i + 1))
      case measure => have := HQ.out; omega
      case rel => exact ⟨i + 1, v', rfl, by first | rfl | simp, rfl, by omega, Lib.hid (by rw [HX.out]; exact RN.out), gN⟩
    · have hii : i = l.length := by omega
      subst hii
      rw [List.take_length] at hR
      go_wp2_with fail
      go_ret
      exact ⟨_, rfl, hR.out, gr⟩

/-- how many contain an event -/
def cntT (l : List Tu) (e : Int) : Nat := (l.filter (fun k => decide (InT k e))).length
theorem cnt_next {l : List Tu} {i : Nat} {t : Tu} (e : Int) (h : l[i]? = some t) : cntT (l.take (i + 1)) e = if InT t e then cntT (l.take i) e + 1 else cntT (l.take i) e := by
  unfold cntT
  rw [List.take_add_one, h, List.filter_append, List.length_append]
  by_cases c : InT t e
  · rw [if_pos c]; simp [c]
  · rw [if_neg c]; simp [c]
def depT (l : List Tu) (e : Int) : Int := if ckT 128 l = 0 then cntT l e else 0
set_option maxRecDepth 100000 in
set_option maxHeartbeats 6400000 in
theorem Depth_any (a : Option Addr) (l : List Tu) (n c : Nat) (e : Int) (w : World) (hn : l.length = n) (hl : n ≤ 20) (h1 : TusAt w a l) (hc : CB l) :
    Calls Try.prog 21 #[.slice a n c, .int .i64 e] w fun x w' => x = .returned (.int .i64 (depT l e)) ∧ G w w' := by
  subst hn
  have H1 := Lib.hid h1
  have HC := Lib.hid hc
  clear h1 hc
  obtain ⟨R, hR⟩ : ∃ z : Int, Hid (z = depT l e) := ⟨_, rfl⟩
  rw [← hR.out]
  by_cases hk : ckT 128 l = 0
  rotate_left
  · have HR := Lib.hid (show R = 0 by rw [hR.out]; exact if_neg hk)
    obtain ⟨E, hE⟩ : ∃ z : Int, Hid (z = ckT 128 l) := ⟨_, rfl⟩
    rw [← hE.out] at hk
    have e3 : (E == 0) = false := beq_false_of_ne hk
    have e4 : (E != 0) = true := by simp [bne, e3]
    clear hk
    go_enter Try.func21, Try.ntmps21
    go_wp2_with fail
    refine (tCheck_any a l _ c _ _ rfl (H1.out.later (by (repeat' (first | (with_reducible exact G.refl _) | (with_reducible assumption) | (with_reducible refine G.drewN ?_ _) | (with_reducible refine G.drew ?_) | (with_reducible refine G.alloc ?_ _) | (with_reducible refine G.setCell ?_ (by first | (with_reducible exact Nat.le_refl _) | (simp; done) | (simp; omega) | omega) _) | (with_reducible refine G.trans ?_ (by assumption)))))) HC.out).mono ?_
    rintro x w1 ⟨rfl, hG⟩
    rw [← hE.out]
    go_wp2_with fail
    go_ret
    exact ⟨by rw [HR.out]; first | done | rfl, by (repeat' (first | (with_reducible exact G.refl _) | (with_reducible assumption) | (with_reducible refine G.drewN ?_ _) | (with_reducible refine G.drew ?_) | (with_reducible refine G.alloc ?_ _) | (with_reducible refine G.setCell ?_ (by first | (with_reducible exact Nat.le_refl _) | (simp; done) | (simp; omega) | omega) _) | (with_reducible refine G.trans ?_ (by assumption))))⟩
  have HK := Lib.hid hk
  have HF := Lib.hid (ckT_fit hk)
  have HR := Lib.hid (show R = cntT l e by rw [hR.out]; exact if_pos hk)
  clear hk hR
  go_enter Try.func21, Try.ntmps21
  go_wp2_with fail
  refine (tCheck_any a l _ c _ _ rfl (H1.out.later (by (repeat' (first | (with_reducible exact G.refl _) | (with_reducible assumption) | (with_reducible refine G.drewN ?_ _) | (with_reducible refine G.drew ?_) | (with_reducible refine G.alloc ?_ _) | (with_reducible refine G.setCell ?_ (by first | (with_reducible exact Nat.le_refl _) | (simp; done) | (simp; omega) | omega) _) | (with_reducible refine G.trans ?_ (by assumption)))))) HC.out).mono ?_
  rintro x w1 ⟨rfl, hG⟩
  rw [HK.out]
  go_wp2_with fail
  go_loopg [5, 13] l.length (fun q x y wr => ∃ (i : Nat) (D : Nat), x = .int .i64 D ∧ y = .int .i64 i ∧ q = l.length - i ∧ i ≤ l.length ∧ D ≤ i ∧ Hid (cntT (l.take i) e = D) ∧ G w wr)
  case atStart => exact ⟨0, 0, rfl, rfl, by omega, by omega, by omega, Lib.hid rfl, by (repeat' (first | (with_reducible exact G.refl _) | (with_reducible assumption) | (with_reducible refine G.drewN ?_ _) | (with_reducible refine G.drew ?_) | (with_reducible refine G.alloc ?_ _) | (with_reducible refine G.setCell ?_ (by first | (with_reducible exact Nat.le_refl _) | (simp; done) | (simp; omega) | omega) _) | (with_reducible refine G.trans ?_ (by assumption))))⟩
  case round =>
    obtain ⟨i, D, rfl, rfl, hq, hi, hDi, hP, gr⟩ := hrel
    have HQ := Lib.hid hq
    clear hq
    by_cases hin : i < l.length
    · obtain ⟨⟨f, cc, aa, nn⟩, hp⟩ : ∃ z, l[i]? = some z := ⟨l[i], List.getElem?_eq_getElem hin⟩
      rcases H1.out with hz | ⟨b0, of, rfl, fc⟩
      · rw [hz] at hin; exact absurd hin (by simp)
      obtain ⟨x0, x1, x2, x3⟩ := (fc i _ hp).later gr
      dsimp only at x0 x1 x2 x3
      have hone := HF.out.one _ (List.mem_of_getElem? hp)
      have HO := Lib.hid (show (-9223372036854775808 ≤ f + cc ∧ f + cc ≤ 9223372036854775807) by have := hone.1; have := hone.2.1; have := hone.2.2.1; dsimp only at *; omega)
      have HNX := Lib.hid (cnt_next e hp)
      have b1 : (0 : Int) ≤ (i : Int) := by omega
      have b2 : (i : Int) < (l.length : Int) := by omega
      have q1 := IntWalk.i64_in ((i : Int) + 1) (by omega)
      have q2 := IntWalk.i64_in ((D : Int) + 1) (by omega)
      clear fc hone hp
      by_cases hit : InT ⟨f, cc, aa, nn⟩ e
      · have HN := Lib.hid (show cntT (l.take (i + 1)) e = D + 1 by rw [HNX.out, if_pos hit, hP.out])
        have HIT := Lib.hid hit
        clear hit
        go_wp2_with fail
        refine (contains_any _ _ _ _ _ _ HO.out.1 HO.out.2).mono ?_
        rintro x w2 ⟨rfl, hG2⟩
        rw [decide_eq_true HIT.out]
        go_wp2_with fail
        go_roundg (l.length - (i + 1))
        case measure => have := HQ.out; omega
        case rel => exact ⟨i + 1, D + 1, by go_num, by go_num, rfl, by omega, by omega, HN, by (repeat' (first | (with_reducible exact G.refl _) | (with_reducible assumption) | (with_reducible refine G.drewN ?_ _) | (with_reducible refine G.drew ?_) | (with_reducible refine G.alloc ?_ _) | (with_reducible refine G.setCell ?_ (by first | (with_reducible exact Nat.le_refl _) | (simp; done) | (simp; omega) | omega) _) | (with_reducible refine G.trans ?_ (by assumption))))⟩
      · have HN := Lib.hid (show cntT (l.take (i + 1)) e = D by rw [HNX.out, if_neg hit, hP.out])
        have HIT := Lib.hid hit
        clear hit
        go_wp2_with fail
        refine (contains_any _ _ _ _ _ _ HO.out.1 HO.out.2).mono ?_
        rintro x w2 ⟨rfl, hG2⟩
        rw [decide_eq_false HIT.out]
        go_wp2_with fail
        go_roundg (l.length - (i + 1))
        case measure => have := HQ.out; omega
        case rel => exact ⟨i + 1, D, rfl, by go_num, rfl, by omega, by omega, HN, by (repeat' (first | (with_reducible exact G.refl _) | (with_reducible assumption) | (with_reducible refine G.drewN ?_ _) | (with_reducible refine G.drew ?_) | (with_reducible refine G.alloc ?_ _) | (with_reducible refine G.setCell ?_ (by first | (with_reducible exact Nat.le_refl _) | (simp; done) | (simp; omega) | omega) _) | (with_reducible refine G.trans ?_ (by assumption))))⟩
    · have hii : i = l.length := by omega
      subst hii
      rw [List.take_length] at hP
      have HA := Lib.hid (show R = D by rw [HR.out, hP.out])
      go_wp2_with fail
      go_ret
      exact ⟨by rw [HA.out]; first | done | rfl, by (repeat' (first | (with_reducible exact G.refl _) | (with_reducible assumption) | (with_reducible refine G.drewN ?_ _) | (with_reducible refine G.drew ?_) | (with_reducible refine G.alloc ?_ _) | (with_reducible refine G.setCell ?_ (by first | (with_reducible exact Nat.le_refl _) | (simp; done) | (simp; omega) | omega) _) | (with_reducible refine G.trans ?_ (by assumption))))⟩
/-- the ratio in lowest terms -/
def raT (l : List Tu) (e : Int) : Int × Int := if ckT 128 l = 0 then ((prT l e).1 / Nat.gcd (prT l e).1.toNat (prT l e).2.toNat, (prT l e).2 / Nat.gcd (prT l e).1.toNat (prT l e).2.toNat) else (0, 0)
set_option maxRecDepth 100000 in
set_option maxHeartbeats 6400000 in
theorem Ratio_any (a : Option Addr) (l : List Tu) (n c : Nat) (e : Int) (w : World) (hn : l.length = n) (hl : n ≤ 20) (h1 : TusAt w a l) (hc : CB l) :
    Calls Try.prog 22 #[.slice a n c, .int .i64 e] w fun x w' => x = .returned (.tuple #[.int .i64 (raT l e).1, .int .i64 (raT l e).2]) ∧ G w w' := by
  have H1 := Lib.hid h1
  have HC := Lib.hid hc
  clear h1 hc
  obtain ⟨X, hX⟩ : ∃ z : Int, Hid (z = (raT l e).1) := ⟨_, rfl⟩
  obtain ⟨Y, hY⟩ : ∃ z : Int, Hid (z = (raT l e).2) := ⟨_, rfl⟩
  rw [← hX.out, ← hY.out]
  by_cases hk : ckT 128 l = 0
  rotate_left
  · have HX := Lib.hid (show X = 0 by rw [hX.out]; unfold raT; rw [if_neg hk])
    have HY := Lib.hid (show Y = 0 by rw [hY.out]; unfold raT; rw [if_neg hk])
    obtain ⟨E, hE⟩ : ∃ z : Int, Hid (z = ckT 128 l) := ⟨_, rfl⟩
    rw [← hE.out] at hk
    have e3 : (E == 0) = false := beq_false_of_ne hk
    have e4 : (E != 0) = true := by simp [bne, e3]
    clear hk
    go_enter Try.func22, Try.ntmps22
    go_wp2_with fail
    refine (tCheck_any a l _ c _ _ hn (H1.out.later (by (repeat' (first | (with_reducible exact G.refl _) | (with_reducible assumption) | (with_reducible refine G.drewN ?_ _) | (with_reducible refine G.drew ?_) | (with_reducible refine G.alloc ?_ _) | (with_reducible refine G.setCell ?_ (by first | (with_reducible exact Nat.le_refl _) | (simp; done) | (simp; omega) | omega) _) | (with_reducible refine G.trans ?_ (by assumption)))))) HC.out).mono ?_
    rintro x w1 ⟨rfl, hG⟩
    rw [← hE.out]
    go_wp2_with fail
    go_returns
    exact ⟨by rw [HX.out, HY.out]; first | done | rfl, by (repeat' (first | (with_reducible exact G.refl _) | (with_reducible assumption) | (with_reducible refine G.drewN ?_ _) | (with_reducible refine G.drew ?_) | (with_reducible refine G.alloc ?_ _) | (with_reducible refine G.setCell ?_ (by first | (with_reducible exact Nat.le_refl _) | (simp; done) | (simp; omega) | omega) _) | (with_reducible refine G.trans ?_ (by assumption))))⟩
  have HF := ckT_fit hk
  obtain ⟨⟨n0, n1⟩, d0, d1⟩ := HF.all e
  obtain ⟨N, hN⟩ : ∃ z : Nat, (prT l e).1 = (z : Int) := ⟨(prT l e).1.toNat, by omega⟩
  obtain ⟨D, hD⟩ : ∃ z : Nat, (prT l e).2 = (z : Int) := ⟨(prT l e).2.toNat, by omega⟩
  have HP := Lib.hid (And.intro hN hD)
  rw [hN] at n0 n1
  rw [hD] at d0 d1
  have hg0 : 0 < Nat.gcd N D := Nat.gcd_pos_of_pos_left _ (by omega)
  obtain ⟨g, hg⟩ : ∃ z : Nat, z = Nat.gcd N D := ⟨_, rfl⟩
  rw [← hg] at hg0
  have HG := Lib.hid hg
  have HX := Lib.hid (show X = (N : Int) / (g : Int) by rw [hX.out]; unfold raT; rw [if_pos hk, hN, hD, hg]; simp)
  have HY := Lib.hid (show Y = (D : Int) / (g : Int) by rw [hY.out]; unfold raT; rw [if_pos hk, hN, hD, hg]; simp)
  have HK := Lib.hid hk
  have HFF := Lib.hid HF
  have q1 : (N : Int).tdiv (g : Int) = (N : Int) / (g : Int) := Int.tdiv_eq_ediv_of_nonneg (by omega)
  have q2 : (D : Int).tdiv (g : Int) = (D : Int) / (g : Int) := Int.tdiv_eq_ediv_of_nonneg (by omega)
  have q3 : ((g : Int) == 0) = false := beq_false_of_ne (by omega)
  have u1 : 0 ≤ (N : Int) / (g : Int) := Int.ediv_nonneg (by omega) (by omega)
  have u2 : (N : Int) / (g : Int) ≤ N := Int.ediv_le_self _ (by omega)
  have u3 : 0 ≤ (D : Int) / (g : Int) := Int.ediv_nonneg (by omega) (by omega)
  have u4 : (D : Int) / (g : Int) ≤ D := Int.ediv_le_self _ (by omega)
  have q4 := IntWalk.i64_in ((N : Int) / (g : Int)) (by omega)
  have q5 := IntWalk.i64_in ((D : Int) / (g : Int)) (by omega)
  have HB := Lib.hid (show N ≤ 1000000 ∧ D ≤ 1000000 by omega)
  clear hk HF hN hD hg u1 u2 u3 u4 n0 n1 d0 d1
  go_enter Try.func22, Try.ntmps22
  go_wp2_with fail
  refine (tCheck_any a l _ c _ _ hn (H1.out.later (by (repeat' (first | (with_reducible exact G.refl _) | (with_reducible assumption) | (with_reducible refine G.drewN ?_ _) | (with_reducible refine G.drew ?_) | (with_reducible refine G.alloc ?_ _) | (with_reducible refine G.setCell ?_ (by first | (with_reducible exact Nat.le_refl _) | (simp; done) | (simp; omega) | omega) _) | (with_reducible refine G.trans ?_ (by assumption)))))) HC.out).mono ?_
  rintro x w1 ⟨rfl, hG⟩
  rw [HK.out]
  go_wp2_with fail
  refine (product_any a l n c e _ hn hl (H1.out.later (by (repeat' (first | (with_reducible exact G.refl _) | (with_reducible assumption) | (with_reducible refine G.drewN ?_ _) | (with_reducible refine G.drew ?_) | (with_reducible refine G.alloc ?_ _) | (with_reducible refine G.setCell ?_ (by first | (with_reducible exact Nat.le_refl _) | (simp; done) | (simp; omega) | omega) _) | (with_reducible refine G.trans ?_ (by assumption)))))) HFF.out).mono ?_
  rintro r w2 ⟨rfl, hG2⟩
  rw [HP.out.1, HP.out.2]
  go_wp2_with fail
  refine (divisor_any N D _ HB.out.1 HB.out.2).mono ?_
  rintro r w3 ⟨rfl, hG3⟩
  have gg := hG3.g
  rw [← HG.out]
  go_wp2_with fail
  go_big_region
  all_goals
    go_wp2_with fail
    go_returns
    exact ⟨by rw [HX.out, HY.out]; first | done | rfl, by (repeat' (first | (with_reducible exact G.refl _) | (with_reducible assumption) | (with_reducible refine G.drewN ?_ _) | (with_reducible refine G.drew ?_) | (with_reducible refine G.alloc ?_ _) | (with_reducible refine G.setCell ?_ (by first | (with_reducible exact Nat.le_refl _) | (simp; done) | (simp; omega) | omega) _) | (with_reducible refine G.trans ?_ (by assumption))))⟩
end Go.Proofs.Ytabaiklagobimaa
