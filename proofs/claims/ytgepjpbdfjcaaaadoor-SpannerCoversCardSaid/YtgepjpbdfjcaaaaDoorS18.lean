import Derived.Test.YtgepjpbdfjcaaaaDoorNestMath
import Derived.Test.YtgepjpbdfjcaaaaDoorS14
import Derived.Test.YtgepjpbdfjcaaaaDoorSL
import Derived.BigRegion
/-! Spanners: Shift -/
namespace Go.Proofs.YtgepjpbdfjcaaaaDoor
open Go.RowKit
attribute [local go_sem] World.cell?_alloc_some

/-- the shift of a place -/
def shS (p : Pl) : List Sp → Int
  | [] => 0
  | x :: r => if OctS p x then (if x.k = 4 then -7 else 7) else shS p r
theorem shS_step {p : Pl} {l : List Sp} {i : Nat} {x : Sp} (h : l[i]? = some x) : shS p (l.drop i) = if OctS p x then (if x.k = 4 then -7 else 7) else shS p (l.drop (i + 1)) := by
  rw [drop_one h, shS]
set_option maxRecDepth 100000 in
set_option maxHeartbeats 6400000 in
theorem sShift_any (a : Option Addr) (l : List Sp) (n c : Nat) (p : Pl) (w : World) (hn : l.length = n) (hl : n ≤ 20) (h1 : SpsAt w a l) :
    Calls Tryd.prog 31 #[.slice a n c, .agg #[.int .i64 p.m, .int .i64 p.a, .int .i64 p.s, .int .i64 p.v]] w fun e w' => e = .returned (.int .i64 (shS p l)) ∧ G w w' := by
  subst hn
  have H1 := Lib.hid h1
  clear h1
  obtain ⟨R, hR⟩ : ∃ z : Int, Hid (z = shS p l) := ⟨_, rfl⟩
  rw [← hR.out]
  have gw : ∀ {W : World}, G (w.alloc (.cells #[.int .i64 p.m, .int .i64 p.a, .int .i64 p.s, .int .i64 p.v] 29)) W → G w W := fun g => G.trans (G.alloc (G.refl w) _) g
  go_enter Tryd.func31, Tryd.ntmps31
  go_wp2_with fail
  go_loopg [9] l.length (fun q k wr => ∃ i : Nat, k = .int .i64 i ∧ q = l.length - i ∧ i ≤ l.length ∧ Hid (R = shS p (l.drop i)) ∧ Hid (G (w.alloc (.cells #[.int .i64 p.m, .int .i64 p.a, .int .i64 p.s, .int .i64 p.v] 29)) wr))
  case atStart => exact ⟨0, rfl, rfl, by omega, Lib.hid (by rw [hR.out]; simp), Lib.hid (by (repeat' (first | (with_reducible exact G.refl _) | (with_reducible assumption) | (with_reducible refine G.drewN ?_ _) | (with_reducible refine G.drew ?_) | (with_reducible refine G.alloc ?_ _) | (with_reducible refine G.setCell ?_ (by first | (with_reducible exact Nat.le_refl _) | (simp; done) | (simp; omega) | omega) _) | (with_reducible refine G.trans ?_ (by assumption)))))⟩
  case round =>
    obtain ⟨i, rfl, hq, hi, hA, gr⟩ := hrel
    have HQ := Lib.hid hq
    clear hq
    by_cases hin : i < l.length
    · obtain ⟨x, hp⟩ : ∃ z, l[i]? = some z := ⟨l[i], List.getElem?_eq_getElem hin⟩
      rcases H1.out with hz | ⟨b0, of, rfl, fc⟩
      · rw [hz] at hin; exact absurd hin (by simp)
      have gp := gr.out
      obtain ⟨x0, x1, x2, x3, x4, x5, x6, x7, x8⟩ := (fc i _ hp).later (gw gp)
      obtain ⟨z0, z1, z2, z3⟩ := B4.made rfl gp
      have HST := Lib.hid (hA.out.trans (shS_step (p := p) hp))
      have b1 : (0 : Int) ≤ (i : Int) := by omega
      have b2 : (i : Int) < (l.length : Int) := by omega
      have q1 := IntWalk.i64_in ((i : Int) + 1) (by omega)
      clear fc hp
      go_wp2_with fail
      refine (covers_any x p _).mono ?_
      rintro e w1 ⟨rfl, hG1⟩
      clear x0 x1 x2 x3 x4 x5 x6 x7 x8
      obtain ⟨x0, x1, x2, x3, x4, x5, x6, x7, x8⟩ := B9.made rfl hG1
      by_cases hc : Cov x p
      · rw [decide_eq_true hc]
        have HC := Lib.hid hc
        clear hc
        obtain ⟨kx, hkx⟩ : ∃ z : Int, Hid (z = x.k) := ⟨_, rfl⟩
        rw [← hkx.out] at x0
        go_wp2_with fail
        any_goals (go_ret; exact ⟨ret_int (by rw [HST.out]; have h1 := HC.out; have h2 := hkx.out; unfold OctS; grind), gw (by (repeat' (first | (with_reducible exact G.refl _) | (with_reducible assumption) | (with_reducible refine G.drewN ?_ _) | (with_reducible refine G.drew ?_) | (with_reducible refine G.alloc ?_ _) | (with_reducible refine G.setCell ?_ (by first | (with_reducible exact Nat.le_refl _) | (simp; done) | (simp; omega) | omega) _) | (with_reducible refine G.trans ?_ (by assumption)))))⟩)
        go_roundg (l.length - (i + 1))
        case measure => have := HQ.out; omega
        case rel => exact ⟨i + 1, by go_num, rfl, by omega, Lib.hid (by rw [HST.out]; have h1 := HC.out; have h2 := hkx.out; unfold OctS; grind), Lib.hid (by (repeat' (first | (with_reducible exact G.refl _) | (with_reducible assumption) | (with_reducible refine G.drewN ?_ _) | (with_reducible refine G.drew ?_) | (with_reducible refine G.alloc ?_ _) | (with_reducible refine G.setCell ?_ (by first | (with_reducible exact Nat.le_refl _) | (simp; done) | (simp; omega) | omega) _) | (with_reducible refine G.trans ?_ (by assumption)))))⟩
      · rw [decide_eq_false hc]
        have HC := Lib.hid hc
        clear hc
        go_wp2_with fail
        go_roundg (l.length - (i + 1))
        case measure => have := HQ.out; omega
        case rel => exact ⟨i + 1, by go_num, rfl, by omega, Lib.hid (by rw [HST.out]; have h1 := HC.out; unfold OctS; grind), Lib.hid (by (repeat' (first | (with_reducible exact G.refl _) | (with_reducible assumption) | (with_reducible refine G.drewN ?_ _) | (with_reducible refine G.drew ?_) | (with_reducible refine G.alloc ?_ _) | (with_reducible refine G.setCell ?_ (by first | (with_reducible exact Nat.le_refl _) | (simp; done) | (simp; omega) | omega) _) | (with_reducible refine G.trans ?_ (by assumption)))))⟩
    · have hii : i = l.length := by omega
      subst hii
      have HR := Lib.hid (show R = 0 by rw [hA.out, List.drop_length]; rfl)
      go_wp2_with fail
      go_ret
      exact ⟨ret_int (by rw [HR.out]), gw gr.out⟩
end Go.Proofs.YtgepjpbdfjcaaaaDoor
