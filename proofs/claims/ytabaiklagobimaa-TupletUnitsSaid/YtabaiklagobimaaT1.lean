import Derived.Test.YtabaiklagobimaaBase
/-! Tuplets: the range of one; the order of two. -/
namespace Go.Proofs.Ytabaiklagobimaa
open Go.RowKit
attribute [local go_sem] World.cell?_alloc_some

set_option maxHeartbeats 3200000 in
theorem inRange_any (f c a n ev : Int) (w : World) (hc : c ≤ 9223372036854775807) (h0 : 0 ≤ ev) (h1 : ev ≤ 128) :
    Calls Try.prog 39 #[.agg #[.int .i64 f, .int .i64 c, .int .i64 a, .int .i64 n], .int .i64 ev] w fun x w' => x = .returned (.bool (decide (InR ev ⟨f, c, a, n⟩))) ∧ G w w' := by
  have HI := Lib.hid (show InR ev ⟨f, c, a, n⟩ ↔ 1 ≤ c ∧ 0 ≤ f ∧ f ≤ ev - c ∧ Rt a ∧ Rt n ∧ a ≠ n from Iff.rfl)
  obtain ⟨R, hR⟩ : ∃ z : Bool, Hid (z = decide (InR ev ⟨f, c, a, n⟩)) := ⟨_, rfl⟩
  rw [← hR.out]
  by_cases k1 : 1 ≤ c
  rotate_left
  · have HR := Lib.hid (show R = false by rw [hR.out]; exact decide_eq_false (fun k => k1 (HI.out.1 k).1))
    clear hc h0 h1
    go_enter Try.func39, Try.ntmps39
    go_wp2_with fail
    go_ret
    exact ⟨by rw [HR.out]; first | done | rfl, by (repeat' (first | (with_reducible exact G.refl _) | (with_reducible assumption) | (with_reducible refine G.drewN ?_ _) | (with_reducible refine G.drew ?_) | (with_reducible refine G.alloc ?_ _) | (with_reducible refine G.setCell ?_ (by first | (with_reducible exact Nat.le_refl _) | (simp; done) | (simp; omega) | omega) _) | (with_reducible refine G.trans ?_ (by assumption))))⟩
  have q1 := IntWalk.i64_in (ev - c) (by omega)
  clear hc h0 h1
  by_cases k2 : 0 ≤ f
  rotate_left
  · have HR := Lib.hid (show R = false by rw [hR.out]; exact decide_eq_false (fun k => k2 (HI.out.1 k).2.1))
    go_enter Try.func39, Try.ntmps39
    go_wp2_with fail
    go_ret
    exact ⟨by rw [HR.out]; first | done | rfl, by (repeat' (first | (with_reducible exact G.refl _) | (with_reducible assumption) | (with_reducible refine G.drewN ?_ _) | (with_reducible refine G.drew ?_) | (with_reducible refine G.alloc ?_ _) | (with_reducible refine G.setCell ?_ (by first | (with_reducible exact Nat.le_refl _) | (simp; done) | (simp; omega) | omega) _) | (with_reducible refine G.trans ?_ (by assumption))))⟩
  by_cases k3 : f ≤ ev - c
  rotate_left
  · have HR := Lib.hid (show R = false by rw [hR.out]; exact decide_eq_false (fun k => k3 (HI.out.1 k).2.2.1))
    go_enter Try.func39, Try.ntmps39
    go_wp2_with fail
    go_ret
    exact ⟨by rw [HR.out]; first | done | rfl, by (repeat' (first | (with_reducible exact G.refl _) | (with_reducible assumption) | (with_reducible refine G.drewN ?_ _) | (with_reducible refine G.drew ?_) | (with_reducible refine G.alloc ?_ _) | (with_reducible refine G.setCell ?_ (by first | (with_reducible exact Nat.le_refl _) | (simp; done) | (simp; omega) | omega) _) | (with_reducible refine G.trans ?_ (by assumption))))⟩
  by_cases k4 : Rt a
  rotate_left
  · have HR := Lib.hid (show R = false by rw [hR.out]; exact decide_eq_false (fun k => k4 (HI.out.1 k).2.2.2.1))
    have HK := Lib.hid k4
    clear k4
    go_enter Try.func39, Try.ntmps39
    go_wp2_with fail
    refine (isRatio_any _ _).mono ?_
    rintro x w1 ⟨rfl, rfl⟩
    rw [decide_eq_false HK.out]
    go_wp2_with fail
    go_ret
    exact ⟨by rw [HR.out]; first | done | rfl, by (repeat' (first | (with_reducible exact G.refl _) | (with_reducible assumption) | (with_reducible refine G.drewN ?_ _) | (with_reducible refine G.drew ?_) | (with_reducible refine G.alloc ?_ _) | (with_reducible refine G.setCell ?_ (by first | (with_reducible exact Nat.le_refl _) | (simp; done) | (simp; omega) | omega) _) | (with_reducible refine G.trans ?_ (by assumption))))⟩
  have HK := Lib.hid k4
  clear k4
  by_cases k5 : Rt n
  rotate_left
  · have HR := Lib.hid (show R = false by rw [hR.out]; exact decide_eq_false (fun k => k5 (HI.out.1 k).2.2.2.2.1))
    have HL := Lib.hid k5
    clear k5
    go_enter Try.func39, Try.ntmps39
    go_wp2_with fail
    refine (isRatio_any _ _).mono ?_
    rintro x w1 ⟨rfl, rfl⟩
    rw [decide_eq_true HK.out]
    go_wp2_with fail
    refine (isRatio_any _ _).mono ?_
    rintro x w1 ⟨rfl, rfl⟩
    rw [decide_eq_false HL.out]
    go_wp2_with fail
    go_ret
    exact ⟨by rw [HR.out]; first | done | rfl, by (repeat' (first | (with_reducible exact G.refl _) | (with_reducible assumption) | (with_reducible refine G.drewN ?_ _) | (with_reducible refine G.drew ?_) | (with_reducible refine G.alloc ?_ _) | (with_reducible refine G.setCell ?_ (by first | (with_reducible exact Nat.le_refl _) | (simp; done) | (simp; omega) | omega) _) | (with_reducible refine G.trans ?_ (by assumption))))⟩
  have HL := Lib.hid k5
  clear k5
  have HR := Lib.hid (show R = !(a == n) by
    rw [hR.out]
    by_cases e : a = n
    · rw [decide_eq_false (fun k => (HI.out.1 k).2.2.2.2.2 e), e]; simp
    · rw [decide_eq_true (HI.out.2 ⟨k1, k2, k3, HK.out, HL.out, e⟩), beq_false_of_ne e]; rfl)
  go_enter Try.func39, Try.ntmps39
  go_wp2_with fail
  refine (isRatio_any _ _).mono ?_
  rintro x w1 ⟨rfl, rfl⟩
  rw [decide_eq_true HK.out]
  go_wp2_with fail
  refine (isRatio_any _ _).mono ?_
  rintro x w1 ⟨rfl, rfl⟩
  rw [decide_eq_true HL.out]
  go_wp2_with fail
  go_ret
  exact ⟨by rw [HR.out]; first | rfl | simp [bne], by (repeat' (first | (with_reducible exact G.refl _) | (with_reducible assumption) | (with_reducible refine G.drewN ?_ _) | (with_reducible refine G.drew ?_) | (with_reducible refine G.alloc ?_ _) | (with_reducible refine G.setCell ?_ (by first | (with_reducible exact Nat.le_refl _) | (simp; done) | (simp; omega) | omega) _) | (with_reducible refine G.trans ?_ (by assumption))))⟩

def cmi (a b : Int) : Int := if a < b then -1 else if b < a then 1 else 0
theorem cmi_cases (a b : Int) : (a < b ∧ cmi a b = -1) ∨ (a = b ∧ cmi a b = 0) ∨ (b < a ∧ cmi a b = 1) := by
  unfold cmi
  by_cases h : a < b
  · rw [if_pos h]; omega
  · rw [if_neg h]; split <;> omega
theorem isNaN_any (x : Int) (w : World) : Calls Try.prog 57 #[.int .i64 x] w fun e w' => e = .returned (.bool false) ∧ w = w' := by
  go_enter Try.func57, Try.ntmps57
  go_wp2_with fail
  go_ret
  exact ⟨by first | rfl | simp, rfl⟩
set_option maxHeartbeats 800000 in
theorem cmpCompare_any (x y : Int) (w : World) : Calls Try.prog 55 #[.int .i64 x, .int .i64 y] w fun e w' => e = .returned (.int .i64 (cmi x y)) ∧ w = w' := by
  obtain ⟨R, hR⟩ : ∃ z : Int, Hid (z = cmi x y) := ⟨_, rfl⟩
  rw [← hR.out]
  by_cases h : x < y
  · have HR := Lib.hid (show R = -1 by rw [hR.out]; exact if_pos h)
    go_enter Try.func55, Try.ntmps55
    go_wp2_with fail
    refine (isNaN_any _ _).mono ?_
    rintro e w1 ⟨rfl, rfl⟩
    go_wp2_with fail
    refine (isNaN_any _ _).mono ?_
    rintro e w1 ⟨rfl, rfl⟩
    go_wp2_with fail
    go_ret
    exact ⟨ret_int HR.out.symm, rfl⟩
  by_cases h2 : y < x
  · have HR := Lib.hid (show R = 1 by rw [hR.out]; exact (if_neg h).trans (if_pos h2))
    go_enter Try.func55, Try.ntmps55
    go_wp2_with fail
    refine (isNaN_any _ _).mono ?_
    rintro e w1 ⟨rfl, rfl⟩
    go_wp2_with fail
    refine (isNaN_any _ _).mono ?_
    rintro e w1 ⟨rfl, rfl⟩
    go_wp2_with fail
    go_ret
    exact ⟨ret_int HR.out.symm, rfl⟩
  · have HR := Lib.hid (show R = 0 by rw [hR.out]; exact (if_neg h).trans (if_neg h2))
    go_enter Try.func55, Try.ntmps55
    go_wp2_with fail
    refine (isNaN_any _ _).mono ?_
    rintro e w1 ⟨rfl, rfl⟩
    go_wp2_with fail
    refine (isNaN_any _ _).mono ?_
    rintro e w1 ⟨rfl, rfl⟩
    go_wp2_with fail
    go_ret
    exact ⟨ret_int HR.out.symm, rfl⟩
theorem Or_any (x y : Int) (g : Nat) (w : World) (h0 : w.cell? ⟨g, 0, none⟩ = some (.int .i64 x)) (h1 : w.cell? ⟨g, 1, none⟩ = some (.int .i64 y)) :
    Calls Try.prog 54 #[.slice (some ⟨g, 0, none⟩) 2 2] w fun e w' => e = .returned (.int .i64 (if x ≠ 0 then x else y)) ∧ w = w' := by
  obtain ⟨R, hR⟩ : ∃ R, Hid (R = if x ≠ 0 then x else y) := ⟨_, rfl⟩
  rw [← hR.out]
  go_enter Try.func54, Try.ntmps54
  go_wp2_with fail
  go_loopg [8] 2 (fun n k wr => wr = w ∧ ((k = .int .i64 0 ∧ n = 2) ∨ (k = .int .i64 1 ∧ n = 1 ∧ x = 0) ∨ (k = .int .i64 2 ∧ n = 0 ∧ x = 0 ∧ y = 0)))
  case atStart => exact ⟨rfl, .inl ⟨rfl, rfl⟩⟩
  case round =>
    obtain ⟨rfl, ⟨rfl, rfl⟩ | ⟨rfl, rfl, rfl⟩ | ⟨rfl, rfl, rfl, rfl⟩⟩ := hrel
    · by_cases c : x = 0
      · subst c
        go_wp2_with fail
        go_roundg 1
        case measure => omega
        case rel => exact ⟨rfl, .inr (.inl ⟨rfl, rfl, by first | rfl | trivial⟩)⟩
      · have c' : (x == 0) = false := beq_false_of_ne c
        have HR := Lib.hid (show R = x by rw [hR.out, if_pos c])
        go_wp2_with fail
        go_ret
        exact ⟨ret_int HR.out.symm, rfl⟩
    · by_cases c : y = 0
      · subst c
        go_wp2_with fail
        go_roundg 0
        case measure => omega
        case rel => exact ⟨rfl, .inr (.inr ⟨rfl, rfl, by first | rfl | trivial, by first | rfl | trivial⟩)⟩
      · have c' : (y == 0) = false := beq_false_of_ne c
        have HR := Lib.hid (show R = y by rw [hR.out, if_neg (by simp)])
        go_wp2_with fail
        go_ret
        exact ⟨ret_int HR.out.symm, rfl⟩
    · have HR := Lib.hid (show R = 0 by rw [hR.out, if_neg (by simp)])
      go_wp2_with fail
      go_ret
      exact ⟨ret_int HR.out.symm, rfl⟩

/-- how two tuplets stand -/
def cpr (t u : Tu) : Int := if cmi t.f u.f ≠ 0 then cmi t.f u.f else cmi u.c t.c
theorem cpr_pos {t u : Tu} : 0 < cpr t u ↔ Aft u t := by
  unfold cpr Aft
  have h1 := cmi_cases t.f u.f
  have h2 := cmi_cases u.c t.c
  split <;> omega
theorem cpr_neg {t u : Tu} : cpr t u < 0 ↔ Aft t u := by
  unfold cpr Aft
  have h1 := cmi_cases t.f u.f
  have h2 := cmi_cases u.c t.c
  split <;> omega
theorem eight_later {w w1 : World} {a b c d e f g h : Value} {t t' : TypeId} (k : G ((w.alloc (.cells #[a, b, c, d] t)).alloc (.cells #[e, f, g, h] t')) w1) :
    w1.cell? ⟨w.heap.size, 0, none⟩ = some a ∧ w1.cell? ⟨w.heap.size, 1, none⟩ = some b ∧ w1.cell? ⟨w.heap.size + 1, 0, none⟩ = some e ∧ w1.cell? ⟨w.heap.size + 1, 1, none⟩ = some f := by
  refine ⟨?_, ?_, ?_, ?_⟩
  · rw [k.cell (by simp; omega)]; go_cell
  · rw [k.cell (by simp; omega)]; go_cell
  · rw [k.cell (by simp)]; go_cell
  · rw [k.cell (by simp)]; go_cell
set_option maxRecDepth 20000 in
set_option maxHeartbeats 3200000 in
theorem compare_any (f c a n f' c' a' n' : Int) (w : World) :
    Calls Try.prog 40 #[.agg #[.int .i64 f, .int .i64 c, .int .i64 a, .int .i64 n], .agg #[.int .i64 f', .int .i64 c', .int .i64 a', .int .i64 n']] w fun e w' => e = .returned (.int .i64 (cpr ⟨f, c, a, n⟩ ⟨f', c', a', n'⟩)) ∧ G w w' := by
  obtain ⟨R, hR⟩ : ∃ z : Int, Hid (z = cpr ⟨f, c, a, n⟩ ⟨f', c', a', n'⟩) := ⟨_, rfl⟩
  rw [← hR.out]
  obtain ⟨u, hu⟩ : ∃ z : Int, Hid (z = cmi f f') := ⟨_, rfl⟩
  obtain ⟨v, hv⟩ : ∃ z : Int, Hid (z = cmi c' c) := ⟨_, rfl⟩
  have HR := Lib.hid (show (if u ≠ 0 then u else v) = R by rw [hR.out, hu.out, hv.out]; rfl)
  have gb : G ((w.alloc (.cells #[.int .i64 f, .int .i64 c, .int .i64 a, .int .i64 n] 52)).alloc (.cells #[.int .i64 f', .int .i64 c', .int .i64 a', .int .i64 n'] 52)) ((w.alloc (.cells #[.int .i64 f, .int .i64 c, .int .i64 a, .int .i64 n] 52)).alloc (.cells #[.int .i64 f', .int .i64 c', .int .i64 a', .int .i64 n'] 52)) := G.refl _
  obtain ⟨d0, d1, d2, d3⟩ := eight_later gb
  clear gb hR
  go_enter Try.func40, Try.ntmps40
  go_wp2_with fail
  go_region_held3 (fun w' => w'.cell? ⟨w.heap.size, 0, none⟩ = some (.int .i64 f) ∧ w'.cell? ⟨w.heap.size, 1, none⟩ = some (.int .i64 c) ∧ w'.cell? ⟨w.heap.size + 1, 0, none⟩ = some (.int .i64 f') ∧ w'.cell? ⟨w.heap.size + 1, 1, none⟩ = some (.int .i64 c'))
    (first | (with_reducible assumption) | ((try dsimp only); (repeat' (with_reducible apply And.intro)) <;> go_simp))
    (first | (go_at_call 55; refine (cmpCompare_any _ _ _).mono ?_; rintro e w9 ⟨rfl, rfl⟩; (first | rw [← hu.out] | rw [← hv.out])) | (go_at_call 54; refine (Or_any u v _ _ (by go_cell) (by go_cell)).mono ?_; rintro e w9 ⟨rfl, rfl⟩; rw [HR.out]))
  all_goals
    go_wp2_with fail
    go_ret
    exact ⟨rfl, by (repeat' (first | (with_reducible exact G.refl _) | (with_reducible assumption) | (with_reducible refine G.drewN ?_ _) | (with_reducible refine G.drew ?_) | (with_reducible refine G.alloc ?_ _) | (with_reducible refine G.setCell ?_ (by first | (with_reducible exact Nat.le_refl _) | (simp; done) | (simp; omega) | omega) _) | (with_reducible refine G.trans ?_ (by assumption))))⟩
end Go.Proofs.Ytabaiklagobimaa
