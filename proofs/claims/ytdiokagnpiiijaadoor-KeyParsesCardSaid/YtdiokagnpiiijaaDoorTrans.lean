import Derived.Test.YtdiokagnpiiijaaDoorBase
/-! Transposition: of the program and of the reference. -/
namespace Go.Proofs.YtdiokagnpiiijaaDoor
open Go.RowKit
attribute [local go_sem] World.cell?_alloc_some

set_option maxHeartbeats 1600000 in
theorem Transpose_sg (f s t : Int) (w : World) (h : ¬ Sg f) :
    Calls Tryd.prog 31 #[.int .i64 f, .agg #[.int .i64 s, .int .i64 t]] w fun e w' => e = .returned (.tuple #[.int .i64 0, .int .i64 2]) ∧ G w w' := by
  have HS := Lib.hid h
  clear h
  go_enter Tryd.func31, Tryd.ntmps31
  go_wp2_with fail
  refine (Check_any f _).mono ?_
  rintro e w1 ⟨rfl, rfl⟩
  rw [ck_bad HS.out]
  go_wp2_with fail
  go_returns
  exact ⟨rfl, by (repeat' (first | (with_reducible exact G.refl _) | (with_reducible assumption) | (with_reducible refine G.drewN ?_ _) | (with_reducible refine G.drew ?_) | (with_reducible refine G.alloc ?_ _) | (with_reducible refine G.setCell ?_ (by first | (with_reducible exact Nat.le_refl _) | (simp; done) | (simp; omega) | omega) _) | (with_reducible refine G.trans ?_ (by assumption))))⟩

set_option maxHeartbeats 3200000 in
theorem Transpose_iv (f s t : Int) (w : World) (h : Sg f) (hi : ¬ Iv s t) :
    Calls Tryd.prog 31 #[.int .i64 f, .agg #[.int .i64 s, .int .i64 t]] w fun e w' => e = .returned (.tuple #[.int .i64 0, .int .i64 2]) ∧ G w w' := by
  have HS := Lib.hid h
  unfold Iv at hi
  clear h
  by_cases c1 : s < -77
  · clear hi
    go_enter Tryd.func31, Tryd.ntmps31
    go_wp2_with fail
    refine (Check_any f _).mono ?_
    rintro e w1 ⟨rfl, rfl⟩
    rw [ck_ok HS.out]
    go_wp2_with fail
    go_returns
    exact ⟨rfl, by (repeat' (first | (with_reducible exact G.refl _) | (with_reducible assumption) | (with_reducible refine G.drewN ?_ _) | (with_reducible refine G.drew ?_) | (with_reducible refine G.alloc ?_ _) | (with_reducible refine G.setCell ?_ (by first | (with_reducible exact Nat.le_refl _) | (simp; done) | (simp; omega) | omega) _) | (with_reducible refine G.trans ?_ (by assumption))))⟩
  by_cases c2 : 77 < s
  · clear hi
    go_enter Tryd.func31, Tryd.ntmps31
    go_wp2_with fail
    refine (Check_any f _).mono ?_
    rintro e w1 ⟨rfl, rfl⟩
    rw [ck_ok HS.out]
    go_wp2_with fail
    go_returns
    exact ⟨rfl, by (repeat' (first | (with_reducible exact G.refl _) | (with_reducible assumption) | (with_reducible refine G.drewN ?_ _) | (with_reducible refine G.drew ?_) | (with_reducible refine G.alloc ?_ _) | (with_reducible refine G.setCell ?_ (by first | (with_reducible exact Nat.le_refl _) | (simp; done) | (simp; omega) | omega) _) | (with_reducible refine G.trans ?_ (by assumption))))⟩
  by_cases c3 : t < -140
  · clear hi
    go_enter Tryd.func31, Tryd.ntmps31
    go_wp2_with fail
    refine (Check_any f _).mono ?_
    rintro e w1 ⟨rfl, rfl⟩
    rw [ck_ok HS.out]
    go_wp2_with fail
    go_returns
    exact ⟨rfl, by (repeat' (first | (with_reducible exact G.refl _) | (with_reducible assumption) | (with_reducible refine G.drewN ?_ _) | (with_reducible refine G.drew ?_) | (with_reducible refine G.alloc ?_ _) | (with_reducible refine G.setCell ?_ (by first | (with_reducible exact Nat.le_refl _) | (simp; done) | (simp; omega) | omega) _) | (with_reducible refine G.trans ?_ (by assumption))))⟩
  · have c4 : 140 < t := by omega
    clear hi
    go_enter Tryd.func31, Tryd.ntmps31
    go_wp2_with fail
    refine (Check_any f _).mono ?_
    rintro e w1 ⟨rfl, rfl⟩
    rw [ck_ok HS.out]
    go_wp2_with fail
    go_returns
    exact ⟨rfl, by (repeat' (first | (with_reducible exact G.refl _) | (with_reducible assumption) | (with_reducible refine G.drewN ?_ _) | (with_reducible refine G.drew ?_) | (with_reducible refine G.alloc ?_ _) | (with_reducible refine G.setCell ?_ (by first | (with_reducible exact Nat.le_refl _) | (simp; done) | (simp; omega) | omega) _) | (with_reducible refine G.trans ?_ (by assumption))))⟩

set_option maxRecDepth 20000 in
set_option maxHeartbeats 3200000 in
theorem Transpose_ok (f s t : Int) (w : World) (h : Sg f) (hi : Iv s t) :
    Calls Tryd.prog 31 #[.int .i64 f, .agg #[.int .i64 s, .int .i64 t]] w fun e w' => e = .returned (.tuple #[.int .i64 (red (f + 7 * t - 12 * s)), .int .i64 0]) ∧ G w w' := by
  have HS := Lib.hid h
  obtain ⟨f0, f1⟩ := h
  obtain ⟨⟨s0, s1⟩, t0, t1⟩ := hi
  obtain ⟨R, hR⟩ : ∃ z : Int, Hid (z = red (f + 7 * t - 12 * s)) := ⟨_, rfl⟩
  rw [← hR.out]
  go_enter Tryd.func31, Tryd.ntmps31
  go_wp2_with fail
  refine (Check_any f _).mono ?_
  rintro e w1 ⟨rfl, rfl⟩
  rw [ck_ok HS.out]
  go_wp2_with fail
  go_loopg [0] (f + (7 * t - 12 * s)).toNat (fun g x wr => ∃ n : Int, x = .int .i64 n ∧ g = n.toNat ∧ -2000 ≤ n ∧ n ≤ 2000 ∧ Hid (red n = R) ∧ wr = w.alloc (.cells #[.int .i64 s, .int .i64 t] 62))
  case atStart => exact ⟨_, rfl, rfl, by omega, by omega, Lib.hid (by rw [hR.out]; congr 1; omega), rfl⟩
  case round =>
    obtain ⟨n, rfl, hg, n0, n1, hn, rfl⟩ := hrel
    have HG := Lib.hid hg
    clear hg
    by_cases c : 7 < n
    · go_wp2_with fail
      go_roundg ((n - 12).toNat)
      case measure => have := HG.out; omega
      case rel => exact ⟨n - 12, rfl, rfl, by omega, by omega, Lib.hid (by rw [red_down c]; exact hn.out), rfl⟩
    · go_wp2_with fail
      go_loopg [0] (7 - n).toNat (fun g x wr => ∃ n : Int, x = .int .i64 n ∧ g = (7 - n).toNat ∧ -2000 ≤ n ∧ n ≤ 7 ∧ Hid (red n = R) ∧ wr = w.alloc (.cells #[.int .i64 s, .int .i64 t] 62))
      case atStart => exact ⟨n, rfl, rfl, by omega, by omega, hn, rfl⟩
      case round =>
        obtain ⟨m, rfl, hg, m0, m1, hm, rfl⟩ := hrel
        have HGM := Lib.hid hg
        clear hg
        by_cases d : m < -7
        · go_wp2_with fail
          go_roundg ((7 - (m + 12)).toNat)
          case measure => have := HGM.out; omega
          case rel => exact ⟨m + 12, rfl, rfl, by omega, by omega, Lib.hid (by rw [red_up d]; exact hm.out), rfl⟩
        · have HM := Lib.hid (show m = R by rw [← hm.out]; exact (red_in ⟨by omega, m1⟩).symm)
          go_wp2_with fail
          go_returns
          refine ⟨?_, by (repeat' (first | (with_reducible exact G.refl _) | (with_reducible assumption) | (with_reducible refine G.drewN ?_ _) | (with_reducible refine G.drew ?_) | (with_reducible refine G.alloc ?_ _) | (with_reducible refine G.setCell ?_ (by first | (with_reducible exact Nat.le_refl _) | (simp; done) | (simp; omega) | omega) _) | (with_reducible refine G.trans ?_ (by assumption))))⟩
          rw [← HM.out]; rfl

def tr (f s t : Int) : Int := if Sg f ∧ Iv s t then red (f + 7 * t - 12 * s) else 0
def te (f s t : Int) : Int := if Sg f ∧ Iv s t then 0 else 2
theorem Transpose_any (f s t : Int) (w : World) :
    Calls Tryd.prog 31 #[.int .i64 f, .agg #[.int .i64 s, .int .i64 t]] w fun e w' => e = .returned (.tuple #[.int .i64 (tr f s t), .int .i64 (te f s t)]) ∧ G w w' := by
  unfold tr te
  by_cases h : Sg f
  · by_cases hi : Iv s t
    · rw [if_pos ⟨h, hi⟩, if_pos ⟨h, hi⟩]; exact Transpose_ok f s t w h hi
    · rw [if_neg (fun k => hi k.2), if_neg (fun k => hi k.2)]; exact Transpose_iv f s t w h hi
  · rw [if_neg (fun k => h k.1), if_neg (fun k => h k.1)]; exact Transpose_sg f s t w h

set_option maxHeartbeats 3200000 in
theorem rTranspose_iv (f s t : Int) (w : World) (hi : ¬ Iv s t) :
    Calls Tryd.prog 32 #[.int .i64 f, .int .i64 s, .int .i64 t] w fun e w' => e = .returned (.tuple #[.int .i64 0, .int .i64 2]) ∧ w = w' := by
  unfold Iv at hi
  by_cases c1 : s < -77
  · clear hi
    go_enter Tryd.func32, Tryd.ntmps32
    go_wp2_with fail
    go_returns
    exact ⟨rfl, rfl⟩
  by_cases c2 : 77 < s
  · clear hi
    go_enter Tryd.func32, Tryd.ntmps32
    go_wp2_with fail
    go_returns
    exact ⟨rfl, rfl⟩
  by_cases c3 : t < -140
  · clear hi
    go_enter Tryd.func32, Tryd.ntmps32
    go_wp2_with fail
    go_returns
    exact ⟨rfl, rfl⟩
  · have c4 : 140 < t := by omega
    clear hi
    go_enter Tryd.func32, Tryd.ntmps32
    go_wp2_with fail
    go_returns
    exact ⟨rfl, rfl⟩

set_option maxRecDepth 20000 in
set_option maxHeartbeats 3200000 in
theorem rTranspose_ok (f s t : Int) (w : World) (h : Sg f) (hi : Iv s t) :
    Calls Tryd.prog 32 #[.int .i64 f, .int .i64 s, .int .i64 t] w fun e w' => e = .returned (.tuple #[.int .i64 (red (f + 7 * t - 12 * s)), .int .i64 0]) ∧ w = w' := by
  obtain ⟨f0, f1⟩ := h
  obtain ⟨⟨s0, s1⟩, t0, t1⟩ := hi
  obtain ⟨R, hR⟩ : ∃ z : Int, Hid (z = red (f + 7 * t - 12 * s)) := ⟨_, rfl⟩
  rw [← hR.out]
  go_enter Tryd.func32, Tryd.ntmps32
  go_wp2_with fail
  go_loopg [8] (f + 7 * t - 12 * s).toNat (fun g x wr => ∃ n : Int, x = .int .i64 n ∧ g = n.toNat ∧ -2000 ≤ n ∧ n ≤ 2000 ∧ Hid (red n = R) ∧ wr = w)
  case atStart => exact ⟨_, rfl, rfl, by omega, by omega, Lib.hid (by rw [hR.out]), rfl⟩
  case round =>
    obtain ⟨n, rfl, hg, n0, n1, hn, rfl⟩ := hrel
    have HG := Lib.hid hg
    clear hg
    by_cases c : 7 < n
    · go_wp2_with fail
      go_roundg ((n - 12).toNat)
      case measure => have := HG.out; omega
      case rel => exact ⟨n - 12, rfl, rfl, by omega, by omega, Lib.hid (by rw [red_down c]; exact hn.out), rfl⟩
    · go_wp2_with fail
      go_loopg [8] (7 - n).toNat (fun g x wr' => ∃ n : Int, x = .int .i64 n ∧ g = (7 - n).toNat ∧ -2000 ≤ n ∧ n ≤ 7 ∧ Hid (red n = R) ∧ wr' = wr)
      case atStart => exact ⟨n, rfl, rfl, by omega, by omega, hn, rfl⟩
      case round =>
        obtain ⟨m, rfl, hg, m0, m1, hm, rfl⟩ := hrel
        have HGM := Lib.hid hg
        clear hg
        by_cases d : m < -7
        · go_wp2_with fail
          go_roundg ((7 - (m + 12)).toNat)
          case measure => have := HGM.out; omega
          case rel => exact ⟨m + 12, rfl, rfl, by omega, by omega, Lib.hid (by rw [red_up d]; exact hm.out), rfl⟩
        · have HM := Lib.hid (show m = R by rw [← hm.out]; exact (red_in ⟨by omega, m1⟩).symm)
          go_wp2_with fail
          go_returns
          refine ⟨?_, rfl⟩
          rw [← HM.out]; rfl
end Go.Proofs.YtdiokagnpiiijaaDoor
