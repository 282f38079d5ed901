import Derived.Test.YtkooggakngheoaaDoorTri
import Derived.Test.YtkooggakngheoaaDoorOps1
import Derived.Test.YtkooggakngheoaaDoorShelf
import Derived.Deep.LoopGhost
/-! The order of pitches: of the program and of the reference. -/
namespace Go.Proofs.YtkooggakngheoaaDoor
open Go.RowKit
attribute [local go_sem] World.cell?_alloc_some

def k1 (s a o : Int) : Int := if Ok s a o then ht s a o else -1
def k2 (s a o : Int) : Int := if Ok s a o then 7 * o + s else 0
def cmi (a b : Int) : Int := if a < b then -1 else if b < a then 1 else 0
def lex (m c n d : Int) : Int := if cmi m n ≠ 0 then cmi m n else cmi c d
theorem cmi_eq (a b : Int) : Lib.compareInt a b = cmi a b := by unfold Lib.compareInt cmi; rfl
theorem cmi_bd (a b : Int) : -1 ≤ cmi a b ∧ cmi a b ≤ 1 := by unfold cmi; repeat' split
                                                              all_goals omega
theorem lex_bd (m c n d : Int) : -1 ≤ lex m c n d ∧ lex m c n d ≤ 1 := by
  have := cmi_bd m n
  have := cmi_bd c d
  unfold lex; split <;> omega
theorem cmi_cases (a b : Int) : (a < b ∧ cmi a b = -1) ∨ (a = b ∧ cmi a b = 0) ∨ (b < a ∧ cmi a b = 1) := by
  unfold cmi
  by_cases h : a < b
  · rw [if_pos h]; omega
  · rw [if_neg h]; split <;> omega
theorem lex_cases (m c n d : Int) : (m < n ∧ lex m c n d = -1) ∨ (n < m ∧ lex m c n d = 1) ∨ (m = n ∧ c < d ∧ lex m c n d = -1) ∨ (m = n ∧ c = d ∧ lex m c n d = 0) ∨ (m = n ∧ d < c ∧ lex m c n d = 1) := by
  have h1 := cmi_cases m n
  have h2 := cmi_cases c d
  unfold lex
  split <;> omega
theorem lex_neg (m c n d : Int) : lex n d m c = -lex m c n d := by
  have h1 := lex_cases m c n d
  have h2 := lex_cases n d m c
  omega
theorem lex_le {m c n d k e : Int} (h1 : lex m c n d ≤ 0) (h2 : lex n d k e ≤ 0) : lex m c k e ≤ 0 := by
  have a1 := lex_cases m c n d
  have a2 := lex_cases n d k e
  have a3 := lex_cases m c k e
  omega
theorem lex_zero {m c n d : Int} (h : lex m c n d = 0) : m = n ∧ c = d := by
  have a1 := lex_cases m c n d
  omega
theorem k_bd (s a o : Int) : -1 ≤ k1 s a o ∧ k1 s a o ≤ 127 ∧ -7 ≤ k2 s a o ∧ k2 s a o ≤ 69 := by
  unfold k1 k2
  by_cases h : Ok s a o
  · rw [if_pos h, if_pos h]
    obtain ⟨⟨⟨_, _⟩, ⟨_, _⟩, _, _⟩, _, _⟩ := h
    omega
  · rw [if_neg h, if_neg h]; omega
theorem k_inj {s a o x b c : Int} (h : Ok s a o) (e1 : k1 s a o = k1 x b c) (e2 : k2 s a o = k2 x b c) : s = x ∧ a = b ∧ o = c := by
  unfold k1 at e1
  unfold k2 at e2
  rw [if_pos h] at e1 e2
  by_cases k : Ok x b c
  · rw [if_pos k] at e1 e2
    obtain ⟨⟨⟨_, _⟩, ⟨_, _⟩, _, _⟩, _, _⟩ := h
    obtain ⟨⟨⟨_, _⟩, ⟨_, _⟩, _, _⟩, _, _⟩ := k
    obtain ⟨rfl, rfl⟩ : s = x ∧ o = c := by omega
    unfold ht at e1
    exact ⟨rfl, by omega, rfl⟩
  · rw [if_neg k] at e1
    have := h.2.1
    omega

set_option maxHeartbeats 800000 in
theorem rank_any (s a o : Int) (w : World) (hT : Hts w) :
    Calls Tryd.prog 66 #[.agg #[.int .i64 s, .int .i64 a, .int .i64 o]] w fun e w' => e = .returned (.tuple #[.int .i64 (k1 s a o), .int .i64 (k2 s a o)]) ∧ G w w' := by
  have HT := Lib.hid hT
  clear hT
  by_cases h : Ok s a o
  · have HO := Lib.hid h
    obtain ⟨m, HM⟩ : ∃ z : Int, Hid (z = ht s a o) := ⟨_, rfl⟩
    obtain ⟨d, HD⟩ : ∃ z : Int, Hid (z = 7 * o + s) := ⟨_, rfl⟩
    rw [show k1 s a o = m by unfold k1; rw [if_pos h, HM.out], show k2 s a o = d by unfold k2; rw [if_pos h, HD.out]]
    clear h
    go_enter Tryd.func66, Tryd.ntmps66
    go_wp2_with fail
    refine (Number_any s a o _ (HT.out.later (by (repeat' (first | (with_reducible exact G.refl _) | (with_reducible assumption) | (with_reducible refine G.drewN ?_ _) | (with_reducible refine G.drew ?_) | (with_reducible refine G.alloc ?_ _) | (with_reducible refine G.setCell ?_ (by first | (with_reducible exact Nat.le_refl _) | (simp; done) | (simp; omega) | omega) _) | (with_reducible refine G.trans ?_ (by assumption))))))).mono ?_
    rintro e w1 ⟨rfl, hG1⟩
    rw [er_ok HO.out, if_pos HO.out, ← HM.out]
    obtain ⟨y0, y1, y2⟩ := tri_later hG1
    go_wp2_with fail
    refine (Diatonic_any s a o _ (HT.out.later (by (repeat' (first | (with_reducible exact G.refl _) | (with_reducible assumption) | (with_reducible refine G.drewN ?_ _) | (with_reducible refine G.drew ?_) | (with_reducible refine G.alloc ?_ _) | (with_reducible refine G.setCell ?_ (by first | (with_reducible exact Nat.le_refl _) | (simp; done) | (simp; omega) | omega) _) | (with_reducible refine G.trans ?_ (by assumption))))))).mono ?_
    rintro e w2 ⟨rfl, hG2⟩
    rw [er_ok HO.out, if_pos HO.out, ← HD.out]
    go_wp2_with fail
    go_returns
    exact ⟨rfl, by (repeat' (first | (with_reducible exact G.refl _) | (with_reducible assumption) | (with_reducible refine G.drewN ?_ _) | (with_reducible refine G.drew ?_) | (with_reducible refine G.alloc ?_ _) | (with_reducible refine G.setCell ?_ (by first | (with_reducible exact Nat.le_refl _) | (simp; done) | (simp; omega) | omega) _) | (with_reducible refine G.trans ?_ (by assumption))))⟩
  · have HO := Lib.hid h
    rw [show k1 s a o = -1 from if_neg h, show k2 s a o = 0 from if_neg h]
    clear h
    go_enter Tryd.func66, Tryd.ntmps66
    go_wp2_with fail
    refine (Number_any s a o _ (HT.out.later (by (repeat' (first | (with_reducible exact G.refl _) | (with_reducible assumption) | (with_reducible refine G.drewN ?_ _) | (with_reducible refine G.drew ?_) | (with_reducible refine G.alloc ?_ _) | (with_reducible refine G.setCell ?_ (by first | (with_reducible exact Nat.le_refl _) | (simp; done) | (simp; omega) | omega) _) | (with_reducible refine G.trans ?_ (by assumption))))))).mono ?_
    rintro e w1 ⟨rfl, hG1⟩
    rw [er_bad HO.out, if_neg HO.out]
    go_wp2_with fail
    go_returns
    exact ⟨rfl, by (repeat' (first | (with_reducible exact G.refl _) | (with_reducible assumption) | (with_reducible refine G.drewN ?_ _) | (with_reducible refine G.drew ?_) | (with_reducible refine G.alloc ?_ _) | (with_reducible refine G.setCell ?_ (by first | (with_reducible exact Nat.le_refl _) | (simp; done) | (simp; omega) | omega) _) | (with_reducible refine G.trans ?_ (by assumption))))⟩

set_option maxHeartbeats 800000 in
theorem Or_any (x y : Int) (g : Nat) (w : World) (h0 : w.cell? ⟨g, 0, none⟩ = some (.int .i64 x)) (h1 : w.cell? ⟨g, 1, none⟩ = some (.int .i64 y)) :
    Calls Tryd.prog 45 #[.slice (some ⟨g, 0, none⟩) 2 2] w fun e w' => e = .returned (.int .i64 (if x ≠ 0 then x else y)) ∧ w = w' := by
  obtain ⟨R, hR⟩ : ∃ R, Hid (R = if x ≠ 0 then x else y) := ⟨_, rfl⟩
  rw [← hR.out]
  go_enter Tryd.func45, Tryd.ntmps45
  go_wp2_with fail
  go_loopg [8] 2 (fun n k wr => wr = w ∧ ((k = .int .i64 0 ∧ n = 2) ∨ (k = .int .i64 1 ∧ n = 1 ∧ x = 0) ∨ (k = .int .i64 2 ∧ n = 0 ∧ x = 0 ∧ y = 0)))
  case atStart => exact ⟨rfl, .inl ⟨rfl, rfl⟩⟩
  case round =>
    obtain ⟨rfl, ⟨rfl, rfl⟩ | ⟨rfl, rfl, rfl⟩ | ⟨rfl, rfl, rfl, rfl⟩⟩ := hrel
    · by_cases c : x = 0
      · subst c
        go_wp2_with fail
        go_roundg 1
        case measure => omega
        case rel => exact ⟨rfl, .inr (.inl ⟨rfl, rfl, by first | rfl | trivial⟩)⟩
      · have c' : (x == 0) = false := beq_false_of_ne c
        have HR := Lib.hid (show R = x by rw [hR.out, if_pos c])
        go_wp2_with fail
        go_ret
        exact ⟨ret_int HR.out.symm, rfl⟩
    · by_cases c : y = 0
      · subst c
        go_wp2_with fail
        go_roundg 0
        case measure => omega
        case rel => exact ⟨rfl, .inr (.inr ⟨rfl, rfl, by first | rfl | trivial, by first | rfl | trivial⟩)⟩
      · have c' : (y == 0) = false := beq_false_of_ne c
        have HR := Lib.hid (show R = y by rw [hR.out, if_neg (by simp)])
        go_wp2_with fail
        go_ret
        exact ⟨ret_int HR.out.symm, rfl⟩
    · have HR := Lib.hid (show R = 0 by rw [hR.out, if_neg (by simp)])
      go_wp2_with fail
      go_ret
      exact ⟨ret_int HR.out.symm, rfl⟩

set_option maxHeartbeats 1600000 in
theorem Compare_any (s a o x b c : Int) (w : World) (hT : Hts w) :
    Calls Tryd.prog 47 #[.agg #[.int .i64 s, .int .i64 a, .int .i64 o], .agg #[.int .i64 x, .int .i64 b, .int .i64 c]] w fun e w' => e = .returned (.int .i64 (lex (k1 s a o) (k2 s a o) (k1 x b c) (k2 x b c))) ∧ G w w' := by
  have HT := Lib.hid hT
  clear hT
  unfold lex
  obtain ⟨u, HU⟩ : ∃ z : Int, Hid (z = cmi (k1 s a o) (k1 x b c)) := ⟨_, rfl⟩
  obtain ⟨v, HV⟩ : ∃ z : Int, Hid (z = cmi (k2 s a o) (k2 x b c)) := ⟨_, rfl⟩
  rw [← HU.out, ← HV.out]
  obtain ⟨R, HR⟩ : ∃ R : Int, Hid (R = if u ≠ 0 then u else v) := ⟨_, rfl⟩
  rw [← HR.out]
  go_enter Tryd.func47, Tryd.ntmps47
  go_wp2_with fail
  refine (rank_any s a o _ (HT.out.later (by (repeat' (first | (with_reducible exact G.refl _) | (with_reducible assumption) | (with_reducible refine G.drewN ?_ _) | (with_reducible refine G.drew ?_) | (with_reducible refine G.alloc ?_ _) | (with_reducible refine G.setCell ?_ (by first | (with_reducible exact Nat.le_refl _) | (simp; done) | (simp; omega) | omega) _) | (with_reducible refine G.trans ?_ (by assumption))))))).mono ?_
  rintro e w1 ⟨rfl, hG1⟩
  obtain ⟨y0, y1, y2⟩ := tri_at (n := w.heap.size + 1) (by simp) hG1
  go_wp2_with fail
  refine (rank_any x b c _ (HT.out.later (by (repeat' (first | (with_reducible exact G.refl _) | (with_reducible assumption) | (with_reducible refine G.drewN ?_ _) | (with_reducible refine G.drew ?_) | (with_reducible refine G.alloc ?_ _) | (with_reducible refine G.setCell ?_ (by first | (with_reducible exact Nat.le_refl _) | (simp; done) | (simp; omega) | omega) _) | (with_reducible refine G.trans ?_ (by assumption))))))).mono ?_
  rintro e w2 ⟨rfl, hG2⟩
  clear y0 y1 y2
  go_wp2_with fail
  refine (Tryd.cmp_Compare_int _ _ _).mono ?_
  rintro e w3 ⟨rfl, rfl⟩
  rw [cmi_eq, ← HU.out]
  go_wp2_with fail
  refine (Tryd.cmp_Compare_int _ _ _).mono ?_
  rintro e w3 ⟨rfl, rfl⟩
  rw [cmi_eq, ← HV.out]
  go_wp2_with fail
  refine (Or_any u v _ _ (by go_cell) (by go_cell)).mono ?_
  rintro e w4 ⟨rfl, rfl⟩
  rw [← HR.out]
  go_wp2_with fail
  go_ret
  exact ⟨rfl, by (repeat' (first | (with_reducible exact G.refl _) | (with_reducible assumption) | (with_reducible refine G.drewN ?_ _) | (with_reducible refine G.drew ?_) | (with_reducible refine G.alloc ?_ _) | (with_reducible refine G.setCell ?_ (by first | (with_reducible exact Nat.le_refl _) | (simp; done) | (simp; omega) | omega) _) | (with_reducible refine G.trans ?_ (by assumption))))⟩

theorem key_later {w w1 : World} {a b c x y : Value} {t t' : TypeId} (h : G ((w.alloc (.cells #[a, b, c] t)).alloc (.cells #[x, y] t')) w1) :
    w1.cell? ⟨w.heap.size, 0, none⟩ = some a ∧ w1.cell? ⟨w.heap.size, 1, none⟩ = some b ∧ w1.cell? ⟨w.heap.size, 2, none⟩ = some c := by
  refine ⟨?_, ?_, ?_⟩ <;> (rw [h.cell (by simp; omega)]; go_cell)
theorem key_later2 {w w1 : World} {a b c x y : Value} {t t' : TypeId} (h : G ((w.alloc (.cells #[a, b, c] t)).alloc (.cells #[x, y] t')) w1) :
    w1.cell? ⟨w.heap.size + 1, 0, none⟩ = some x ∧ w1.cell? ⟨w.heap.size + 1, 1, none⟩ = some y ∧ w1.frozen? ⟨w.heap.size + 1, 0, none⟩ = false ∧ w1.frozen? ⟨w.heap.size + 1, 1, none⟩ = false := by
  refine ⟨?_, ?_, ?_, ?_⟩
  · rw [h.cell (by simp)]; go_cell
  · rw [h.cell (by simp)]; go_cell
  · rw [h.frozen (by simp)]; simp [go_sem]
  · rw [h.frozen (by simp)]; simp [go_sem]
end Go.Proofs.YtkooggakngheoaaDoor
