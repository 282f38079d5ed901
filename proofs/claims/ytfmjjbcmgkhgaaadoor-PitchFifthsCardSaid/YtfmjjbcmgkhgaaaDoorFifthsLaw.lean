/- PitchFifths: for every two pitches, the places of enharmonic ones on the line of fifths differ by multiples of 12, and number and place determine a pitch; the arguments read as before; the tables and variables that the row lists are tied to the program text; no further condition. -/
import Derived.Test.YtfmjjbcmgkhgaaaDoorArg
import Derived.Test.YtfmjjbcmgkhgaaaDoorRef1
import Derived.Test.YtfmjjbcmgkhgaaaDoorTri
namespace Go.Proofs.YtfmjjbcmgkhgaaaDoor
open Go.RowKit
attribute [local go_sem] World.cell?_alloc_some

theorem fq_bd {s a o : Int} (h : Inr s a o) : -15 ≤ Q s + 7 * a ∧ Q s + 7 * a ≤ 19 := by
  have := Q_bd s
  obtain ⟨_, ⟨_, _⟩, _⟩ := h
  omega
theorem HQ12 {s : Int} (h0 : 0 ≤ s) (h1 : s ≤ 6) : (7 * Q s - H s) % 12 = 0 := by
  rcases steps7 h0 h1 with rfl | rfl | rfl | rfl | rfl | rfl | rfl <;> decide
theorem fifths_mod {s a o x b c : Int} (h : Inr s a o) (k : Inr x b c) : ((7 * (Q s + 7 * a - (Q x + 7 * b)) - (ht s a o - ht x b c)).tmod 12 == 0) = true := by
  have h1 := HQ12 h.1.1 h.1.2
  have h2 := HQ12 k.1.1 k.1.2
  have : (7 * (Q s + 7 * a - (Q x + 7 * b)) - (ht s a o - ht x b c)) % 12 = 0 := by unfold ht; omega
  rw [beq_iff_eq]
  exact Int.tmod_eq_zero_of_dvd (Int.dvd_of_emod_eq_zero this)
theorem Q_inj {s x a b : Int} (s0 : 0 ≤ s) (s1 : s ≤ 6) (x0 : 0 ≤ x) (x1 : x ≤ 6) (h : Q s + 7 * a = Q x + 7 * b) : s = x ∧ a = b := by
  rcases steps7 s0 s1 with rfl | rfl | rfl | rfl | rfl | rfl | rfl <;> rcases steps7 x0 x1 with rfl | rfl | rfl | rfl | rfl | rfl | rfl <;> simp [Q] at h <;> omega
theorem same_of {s a o x b c : Int} (h : Inr s a o) (k : Inr x b c) (e1 : ht s a o = ht x b c) (e2 : Q s + 7 * a = Q x + 7 * b) : s = x ∧ a = b ∧ o = c := by
  obtain ⟨rfl, rfl⟩ := Q_inj h.1.1 h.1.2 k.1.1 k.1.2 e2
  unfold ht at e1
  exact ⟨rfl, rfl, by omega⟩
set_option maxRecDepth 20000 in
set_option maxHeartbeats 3200000 in
theorem fifths_walk (s a o x b c : Int) (w : World) (hT : Tab w ∧ Plc w) :
    Calls Tryd.prog 11 #[.agg #[.int .i64 s, .int .i64 a, .int .i64 o], .agg #[.int .i64 x, .int .i64 b, .int .i64 c]] w fun e w' => e = .returned (.bool true) ∧ G w w' := by
  have HT := Lib.hid hT.1
  have HL := Lib.hid hT.2
  clear hT
  by_cases hp : Ok s a o
  rotate_left
  · have HP := Lib.hid hp
    clear hp
    go_enter Tryd.func11, Tryd.ntmps11
    go_wp2_with fail
    refine (rExists_any s a o _).mono ?_
    rintro e w1 ⟨rfl, hG1⟩
    rw [decide_eq_false HP.out]
    have gb0_1 : G (w.alloc (.cells #[.int .i64 s, .int .i64 a, .int .i64 o] 23)) w1 := by (repeat' (first | (with_reducible exact G.refl _) | (with_reducible assumption) | (with_reducible refine G.drewN ?_ _) | (with_reducible refine G.drew ?_) | (with_reducible refine G.alloc ?_ _) | (with_reducible refine G.setCell ?_ (by first | (with_reducible exact Nat.le_refl _) | (simp; done) | (simp; omega) | omega) _) | (with_reducible refine G.trans ?_ (by assumption))))
    have gb1_1 : G ((w.alloc (.cells #[.int .i64 s, .int .i64 a, .int .i64 o] 23)).alloc (.cells #[.int .i64 x, .int .i64 b, .int .i64 c] 23)) w1 := by (repeat' (first | (with_reducible exact G.refl _) | (with_reducible assumption) | (with_reducible refine G.drewN ?_ _) | (with_reducible refine G.drew ?_) | (with_reducible refine G.alloc ?_ _) | (with_reducible refine G.setCell ?_ (by first | (with_reducible exact Nat.le_refl _) | (simp; done) | (simp; omega) | omega) _) | (with_reducible refine G.trans ?_ (by assumption))))
    obtain ⟨c0a, c0b, c0c⟩ := tri_at (n := w.heap.size) (by simp) gb0_1
    obtain ⟨c1a, c1b, c1c⟩ := tri_at (n := w.heap.size + 1) (by simp) gb1_1
    have gw1 : G w w1 := by (repeat' (first | (with_reducible exact G.refl _) | (with_reducible assumption) | (with_reducible refine G.drewN ?_ _) | (with_reducible refine G.drew ?_) | (with_reducible refine G.alloc ?_ _) | (with_reducible refine G.setCell ?_ (by first | (with_reducible exact Nat.le_refl _) | (simp; done) | (simp; omega) | omega) _) | (with_reducible refine G.trans ?_ (by assumption))))
    go_wp2_with fail
    refine (known_any _ (HT.out.later (by (repeat' (first | (with_reducible exact G.refl _) | (with_reducible assumption) | (with_reducible refine G.drewN ?_ _) | (with_reducible refine G.drew ?_) | (with_reducible refine G.alloc ?_ _) | (with_reducible refine G.setCell ?_ (by first | (with_reducible exact Nat.le_refl _) | (simp; done) | (simp; omega) | omega) _) | (with_reducible refine G.trans ?_ (by assumption))))))).mono ?_
    rintro e w2 ⟨rfl, hG2⟩
    clear c0a c0b c0c c1a c1b c1c
    have gb0_2 := gb0_1.trans (show G w1 w2 by (repeat' (first | (with_reducible exact G.refl _) | (with_reducible assumption) | (with_reducible refine G.drewN ?_ _) | (with_reducible refine G.drew ?_) | (with_reducible refine G.alloc ?_ _) | (with_reducible refine G.setCell ?_ (by first | (with_reducible exact Nat.le_refl _) | (simp; done) | (simp; omega) | omega) _) | (with_reducible refine G.trans ?_ (by assumption)))))
    clear gb0_1
    have gb1_2 := gb1_1.trans (show G w1 w2 by (repeat' (first | (with_reducible exact G.refl _) | (with_reducible assumption) | (with_reducible refine G.drewN ?_ _) | (with_reducible refine G.drew ?_) | (with_reducible refine G.alloc ?_ _) | (with_reducible refine G.setCell ?_ (by first | (with_reducible exact Nat.le_refl _) | (simp; done) | (simp; omega) | omega) _) | (with_reducible refine G.trans ?_ (by assumption)))))
    clear gb1_1
    obtain ⟨c0a, c0b, c0c⟩ := tri_at (n := w.heap.size) (by simp) gb0_2
    obtain ⟨c1a, c1b, c1c⟩ := tri_at (n := w.heap.size + 1) (by simp) gb1_2
    have gw2 : G w w2 := gw1.trans (show G w1 w2 by (repeat' (first | (with_reducible exact G.refl _) | (with_reducible assumption) | (with_reducible refine G.drewN ?_ _) | (with_reducible refine G.drew ?_) | (with_reducible refine G.alloc ?_ _) | (with_reducible refine G.setCell ?_ (by first | (with_reducible exact Nat.le_refl _) | (simp; done) | (simp; omega) | omega) _) | (with_reducible refine G.trans ?_ (by assumption)))))
    go_wp2_with fail
    go_ret
    exact ⟨rfl, by (repeat' (first | (with_reducible exact G.refl _) | (with_reducible assumption) | (with_reducible refine G.drewN ?_ _) | (with_reducible refine G.drew ?_) | (with_reducible refine G.alloc ?_ _) | (with_reducible refine G.setCell ?_ (by first | (with_reducible exact Nat.le_refl _) | (simp; done) | (simp; omega) | omega) _) | (with_reducible refine G.trans ?_ (by assumption))))⟩
  by_cases hq : Ok x b c
  rotate_left
  · have HP := Lib.hid hp
    have HQ := Lib.hid hq
    clear hp hq
    go_enter Tryd.func11, Tryd.ntmps11
    go_wp2_with fail
    refine (rExists_any s a o _).mono ?_
    rintro e w1 ⟨rfl, hG1⟩
    rw [decide_eq_true HP.out]
    have gb0_1 : G (w.alloc (.cells #[.int .i64 s, .int .i64 a, .int .i64 o] 23)) w1 := by (repeat' (first | (with_reducible exact G.refl _) | (with_reducible assumption) | (with_reducible refine G.drewN ?_ _) | (with_reducible refine G.drew ?_) | (with_reducible refine G.alloc ?_ _) | (with_reducible refine G.setCell ?_ (by first | (with_reducible exact Nat.le_refl _) | (simp; done) | (simp; omega) | omega) _) | (with_reducible refine G.trans ?_ (by assumption))))
    have gb1_1 : G ((w.alloc (.cells #[.int .i64 s, .int .i64 a, .int .i64 o] 23)).alloc (.cells #[.int .i64 x, .int .i64 b, .int .i64 c] 23)) w1 := by (repeat' (first | (with_reducible exact G.refl _) | (with_reducible assumption) | (with_reducible refine G.drewN ?_ _) | (with_reducible refine G.drew ?_) | (with_reducible refine G.alloc ?_ _) | (with_reducible refine G.setCell ?_ (by first | (with_reducible exact Nat.le_refl _) | (simp; done) | (simp; omega) | omega) _) | (with_reducible refine G.trans ?_ (by assumption))))
    obtain ⟨c0a, c0b, c0c⟩ := tri_at (n := w.heap.size) (by simp) gb0_1
    obtain ⟨c1a, c1b, c1c⟩ := tri_at (n := w.heap.size + 1) (by simp) gb1_1
    have gw1 : G w w1 := by (repeat' (first | (with_reducible exact G.refl _) | (with_reducible assumption) | (with_reducible refine G.drewN ?_ _) | (with_reducible refine G.drew ?_) | (with_reducible refine G.alloc ?_ _) | (with_reducible refine G.setCell ?_ (by first | (with_reducible exact Nat.le_refl _) | (simp; done) | (simp; omega) | omega) _) | (with_reducible refine G.trans ?_ (by assumption))))
    go_wp2_with fail
    refine (rExists_any x b c _).mono ?_
    rintro e w2 ⟨rfl, hG2⟩
    rw [decide_eq_false HQ.out]
    clear c0a c0b c0c c1a c1b c1c
    have gb0_2 := gb0_1.trans (show G w1 w2 by (repeat' (first | (with_reducible exact G.refl _) | (with_reducible assumption) | (with_reducible refine G.drewN ?_ _) | (with_reducible refine G.drew ?_) | (with_reducible refine G.alloc ?_ _) | (with_reducible refine G.setCell ?_ (by first | (with_reducible exact Nat.le_refl _) | (simp; done) | (simp; omega) | omega) _) | (with_reducible refine G.trans ?_ (by assumption)))))
    clear gb0_1
    have gb1_2 := gb1_1.trans (show G w1 w2 by (repeat' (first | (with_reducible exact G.refl _) | (with_reducible assumption) | (with_reducible refine G.drewN ?_ _) | (with_reducible refine G.drew ?_) | (with_reducible refine G.alloc ?_ _) | (with_reducible refine G.setCell ?_ (by first | (with_reducible exact Nat.le_refl _) | (simp; done) | (simp; omega) | omega) _) | (with_reducible refine G.trans ?_ (by assumption)))))
    clear gb1_1
    obtain ⟨c0a, c0b, c0c⟩ := tri_at (n := w.heap.size) (by simp) gb0_2
    obtain ⟨c1a, c1b, c1c⟩ := tri_at (n := w.heap.size + 1) (by simp) gb1_2
    have gw2 : G w w2 := gw1.trans (show G w1 w2 by (repeat' (first | (with_reducible exact G.refl _) | (with_reducible assumption) | (with_reducible refine G.drewN ?_ _) | (with_reducible refine G.drew ?_) | (with_reducible refine G.alloc ?_ _) | (with_reducible refine G.setCell ?_ (by first | (with_reducible exact Nat.le_refl _) | (simp; done) | (simp; omega) | omega) _) | (with_reducible refine G.trans ?_ (by assumption)))))
    go_wp2_with fail
    refine (known_any _ (HT.out.later (by (repeat' (first | (with_reducible exact G.refl _) | (with_reducible assumption) | (with_reducible refine G.drewN ?_ _) | (with_reducible refine G.drew ?_) | (with_reducible refine G.alloc ?_ _) | (with_reducible refine G.setCell ?_ (by first | (with_reducible exact Nat.le_refl _) | (simp; done) | (simp; omega) | omega) _) | (with_reducible refine G.trans ?_ (by assumption))))))).mono ?_
    rintro e w3 ⟨rfl, hG3⟩
    clear c0a c0b c0c c1a c1b c1c
    have gb0_3 := gb0_2.trans (show G w2 w3 by (repeat' (first | (with_reducible exact G.refl _) | (with_reducible assumption) | (with_reducible refine G.drewN ?_ _) | (with_reducible refine G.drew ?_) | (with_reducible refine G.alloc ?_ _) | (with_reducible refine G.setCell ?_ (by first | (with_reducible exact Nat.le_refl _) | (simp; done) | (simp; omega) | omega) _) | (with_reducible refine G.trans ?_ (by assumption)))))
    clear gb0_2
    have gb1_3 := gb1_2.trans (show G w2 w3 by (repeat' (first | (with_reducible exact G.refl _) | (with_reducible assumption) | (with_reducible refine G.drewN ?_ _) | (with_reducible refine G.drew ?_) | (with_reducible refine G.alloc ?_ _) | (with_reducible refine G.setCell ?_ (by first | (with_reducible exact Nat.le_refl _) | (simp; done) | (simp; omega) | omega) _) | (with_reducible refine G.trans ?_ (by assumption)))))
    clear gb1_2
    obtain ⟨c0a, c0b, c0c⟩ := tri_at (n := w.heap.size) (by simp) gb0_3
    obtain ⟨c1a, c1b, c1c⟩ := tri_at (n := w.heap.size + 1) (by simp) gb1_3
    have gw3 : G w w3 := gw2.trans (show G w2 w3 by (repeat' (first | (with_reducible exact G.refl _) | (with_reducible assumption) | (with_reducible refine G.drewN ?_ _) | (with_reducible refine G.drew ?_) | (with_reducible refine G.alloc ?_ _) | (with_reducible refine G.setCell ?_ (by first | (with_reducible exact Nat.le_refl _) | (simp; done) | (simp; omega) | omega) _) | (with_reducible refine G.trans ?_ (by assumption)))))
    go_wp2_with fail
    go_ret
    exact ⟨rfl, by (repeat' (first | (with_reducible exact G.refl _) | (with_reducible assumption) | (with_reducible refine G.drewN ?_ _) | (with_reducible refine G.drew ?_) | (with_reducible refine G.alloc ?_ _) | (with_reducible refine G.setCell ?_ (by first | (with_reducible exact Nat.le_refl _) | (simp; done) | (simp; omega) | omega) _) | (with_reducible refine G.trans ?_ (by assumption))))⟩
  by_cases he : s = x ∧ a = b ∧ o = c
  · obtain ⟨rfl, rfl, rfl⟩ := he
    have HP := Lib.hid hp
    have HQ := Lib.hid hq
    clear hp hq
    obtain ⟨m, HM⟩ : ∃ z : Int, Hid (z = ht s a o) := ⟨_, rfl⟩
    obtain ⟨n, HN⟩ : ∃ z : Int, Hid (z = ht s a o) := ⟨_, rfl⟩
    obtain ⟨q, HC⟩ : ∃ z : Int, Hid (z = Q s + 7 * a) := ⟨_, rfl⟩
    obtain ⟨r, HD⟩ : ∃ z : Int, Hid (z = Q s + 7 * a) := ⟨_, rfl⟩
    have m0 : 0 ≤ m := by rw [HM.out]; exact HP.out.2.1
    have m1 : m ≤ 127 := by rw [HM.out]; exact HP.out.2.2
    have n0 : 0 ≤ n := by rw [HN.out]; exact HQ.out.2.1
    have n1 : n ≤ 127 := by rw [HN.out]; exact HQ.out.2.2
    have q0 : -15 ≤ q := by rw [HC.out]; exact (fq_bd HP.out.1).1
    have q1 : q ≤ 19 := by rw [HC.out]; exact (fq_bd HP.out.1).2
    have r0 : -15 ≤ r := by rw [HD.out]; exact (fq_bd HQ.out.1).1
    have r1 : r ≤ 19 := by rw [HD.out]; exact (fq_bd HQ.out.1).2
    have hmod : ((7 * (q - r) - (m - n)).tmod 12 == 0) = true := by rw [HM.out, HN.out, HC.out, HD.out]; exact fifths_mod HP.out.1 HQ.out.1

    obtain rfl : m = n := by rw [HM.out, HN.out]
    obtain rfl : q = r := by rw [HC.out, HD.out]
    go_enter Tryd.func11, Tryd.ntmps11
    go_wp2_with fail
    refine (rExists_any s a o _).mono ?_
    rintro e w1 ⟨rfl, hG1⟩
    rw [decide_eq_true HP.out]
    have gb0_1 : G (w.alloc (.cells #[.int .i64 s, .int .i64 a, .int .i64 o] 23)) w1 := by (repeat' (first | (with_reducible exact G.refl _) | (with_reducible assumption) | (with_reducible refine G.drewN ?_ _) | (with_reducible refine G.drew ?_) | (with_reducible refine G.alloc ?_ _) | (with_reducible refine G.setCell ?_ (by first | (with_reducible exact Nat.le_refl _) | (simp; done) | (simp; omega) | omega) _) | (with_reducible refine G.trans ?_ (by assumption))))
    have gb1_1 : G ((w.alloc (.cells #[.int .i64 s, .int .i64 a, .int .i64 o] 23)).alloc (.cells #[.int .i64 s, .int .i64 a, .int .i64 o] 23)) w1 := by (repeat' (first | (with_reducible exact G.refl _) | (with_reducible assumption) | (with_reducible refine G.drewN ?_ _) | (with_reducible refine G.drew ?_) | (with_reducible refine G.alloc ?_ _) | (with_reducible refine G.setCell ?_ (by first | (with_reducible exact Nat.le_refl _) | (simp; done) | (simp; omega) | omega) _) | (with_reducible refine G.trans ?_ (by assumption))))
    obtain ⟨c0a, c0b, c0c⟩ := tri_at (n := w.heap.size) (by simp) gb0_1
    obtain ⟨c1a, c1b, c1c⟩ := tri_at (n := w.heap.size + 1) (by simp) gb1_1
    have gw1 : G w w1 := by (repeat' (first | (with_reducible exact G.refl _) | (with_reducible assumption) | (with_reducible refine G.drewN ?_ _) | (with_reducible refine G.drew ?_) | (with_reducible refine G.alloc ?_ _) | (with_reducible refine G.setCell ?_ (by first | (with_reducible exact Nat.le_refl _) | (simp; done) | (simp; omega) | omega) _) | (with_reducible refine G.trans ?_ (by assumption))))
    go_wp2_with fail
    refine (rExists_any s a o _).mono ?_
    rintro e w2 ⟨rfl, hG2⟩
    rw [decide_eq_true HQ.out]
    clear c0a c0b c0c c1a c1b c1c
    have gb0_2 := gb0_1.trans (show G w1 w2 by (repeat' (first | (with_reducible exact G.refl _) | (with_reducible assumption) | (with_reducible refine G.drewN ?_ _) | (with_reducible refine G.drew ?_) | (with_reducible refine G.alloc ?_ _) | (with_reducible refine G.setCell ?_ (by first | (with_reducible exact Nat.le_refl _) | (simp; done) | (simp; omega) | omega) _) | (with_reducible refine G.trans ?_ (by assumption)))))
    clear gb0_1
    have gb1_2 := gb1_1.trans (show G w1 w2 by (repeat' (first | (with_reducible exact G.refl _) | (with_reducible assumption) | (with_reducible refine G.drewN ?_ _) | (with_reducible refine G.drew ?_) | (with_reducible refine G.alloc ?_ _) | (with_reducible refine G.setCell ?_ (by first | (with_reducible exact Nat.le_refl _) | (simp; done) | (simp; omega) | omega) _) | (with_reducible refine G.trans ?_ (by assumption)))))
    clear gb1_1
    obtain ⟨c0a, c0b, c0c⟩ := tri_at (n := w.heap.size) (by simp) gb0_2
    obtain ⟨c1a, c1b, c1c⟩ := tri_at (n := w.heap.size + 1) (by simp) gb1_2
    have gw2 : G w w2 := gw1.trans (show G w1 w2 by (repeat' (first | (with_reducible exact G.refl _) | (with_reducible assumption) | (with_reducible refine G.drewN ?_ _) | (with_reducible refine G.drew ?_) | (with_reducible refine G.alloc ?_ _) | (with_reducible refine G.setCell ?_ (by first | (with_reducible exact Nat.le_refl _) | (simp; done) | (simp; omega) | omega) _) | (with_reducible refine G.trans ?_ (by assumption)))))
    go_wp2_with fail
    refine (Number_any s a o _ (HT.out.later (by (repeat' (first | (with_reducible exact G.refl _) | (with_reducible assumption) | (with_reducible refine G.drewN ?_ _) | (with_reducible refine G.drew ?_) | (with_reducible refine G.alloc ?_ _) | (with_reducible refine G.setCell ?_ (by first | (with_reducible exact Nat.le_refl _) | (simp; done) | (simp; omega) | omega) _) | (with_reducible refine G.trans ?_ (by assumption)))))).hts).mono ?_
    rintro e w3 ⟨rfl, hG3⟩
    rw [er_ok HP.out, if_pos HP.out, ← HM.out]
    clear c0a c0b c0c c1a c1b c1c
    have gb0_3 := gb0_2.trans (show G w2 w3 by (repeat' (first | (with_reducible exact G.refl _) | (with_reducible assumption) | (with_reducible refine G.drewN ?_ _) | (with_reducible refine G.drew ?_) | (with_reducible refine G.alloc ?_ _) | (with_reducible refine G.setCell ?_ (by first | (with_reducible exact Nat.le_refl _) | (simp; done) | (simp; omega) | omega) _) | (with_reducible refine G.trans ?_ (by assumption)))))
    clear gb0_2
    have gb1_3 := gb1_2.trans (show G w2 w3 by (repeat' (first | (with_reducible exact G.refl _) | (with_reducible assumption) | (with_reducible refine G.drewN ?_ _) | (with_reducible refine G.drew ?_) | (with_reducible refine G.alloc ?_ _) | (with_reducible refine G.setCell ?_ (by first | (with_reducible exact Nat.le_refl _) | (simp; done) | (simp; omega) | omega) _) | (with_reducible refine G.trans ?_ (by assumption)))))
    clear gb1_2
    obtain ⟨c0a, c0b, c0c⟩ := tri_at (n := w.heap.size) (by simp) gb0_3
    obtain ⟨c1a, c1b, c1c⟩ := tri_at (n := w.heap.size + 1) (by simp) gb1_3
    have gw3 : G w w3 := gw2.trans (show G w2 w3 by (repeat' (first | (with_reducible exact G.refl _) | (with_reducible assumption) | (with_reducible refine G.drewN ?_ _) | (with_reducible refine G.drew ?_) | (with_reducible refine G.alloc ?_ _) | (with_reducible refine G.setCell ?_ (by first | (with_reducible exact Nat.le_refl _) | (simp; done) | (simp; omega) | omega) _) | (with_reducible refine G.trans ?_ (by assumption)))))
    go_wp2_with fail
    refine (Number_any s a o _ (HT.out.later (by (repeat' (first | (with_reducible exact G.refl _) | (with_reducible assumption) | (with_reducible refine G.drewN ?_ _) | (with_reducible refine G.drew ?_) | (with_reducible refine G.alloc ?_ _) | (with_reducible refine G.setCell ?_ (by first | (with_reducible exact Nat.le_refl _) | (simp; done) | (simp; omega) | omega) _) | (with_reducible refine G.trans ?_ (by assumption)))))).hts).mono ?_
    rintro e w4 ⟨rfl, hG4⟩
    rw [er_ok HQ.out, if_pos HQ.out, ← HN.out]
    clear c0a c0b c0c c1a c1b c1c
    have gb0_4 := gb0_3.trans (show G w3 w4 by (repeat' (first | (with_reducible exact G.refl _) | (with_reducible assumption) | (with_reducible refine G.drewN ?_ _) | (with_reducible refine G.drew ?_) | (with_reducible refine G.alloc ?_ _) | (with_reducible refine G.setCell ?_ (by first | (with_reducible exact Nat.le_refl _) | (simp; done) | (simp; omega) | omega) _) | (with_reducible refine G.trans ?_ (by assumption)))))
    clear gb0_3
    have gb1_4 := gb1_3.trans (show G w3 w4 by (repeat' (first | (with_reducible exact G.refl _) | (with_reducible assumption) | (with_reducible refine G.drewN ?_ _) | (with_reducible refine G.drew ?_) | (with_reducible refine G.alloc ?_ _) | (with_reducible refine G.setCell ?_ (by first | (with_reducible exact Nat.le_refl _) | (simp; done) | (simp; omega) | omega) _) | (with_reducible refine G.trans ?_ (by assumption)))))
    clear gb1_3
    obtain ⟨c0a, c0b, c0c⟩ := tri_at (n := w.heap.size) (by simp) gb0_4
    obtain ⟨c1a, c1b, c1c⟩ := tri_at (n := w.heap.size + 1) (by simp) gb1_4
    have gw4 : G w w4 := gw3.trans (show G w3 w4 by (repeat' (first | (with_reducible exact G.refl _) | (with_reducible assumption) | (with_reducible refine G.drewN ?_ _) | (with_reducible refine G.drew ?_) | (with_reducible refine G.alloc ?_ _) | (with_reducible refine G.setCell ?_ (by first | (with_reducible exact Nat.le_refl _) | (simp; done) | (simp; omega) | omega) _) | (with_reducible refine G.trans ?_ (by assumption)))))
    go_wp2_with fail
    refine (Fifths_any s a o _ (HT.out.later (by (repeat' (first | (with_reducible exact G.refl _) | (with_reducible assumption) | (with_reducible refine G.drewN ?_ _) | (with_reducible refine G.drew ?_) | (with_reducible refine G.alloc ?_ _) | (with_reducible refine G.setCell ?_ (by first | (with_reducible exact Nat.le_refl _) | (simp; done) | (simp; omega) | omega) _) | (with_reducible refine G.trans ?_ (by assumption)))))).hts (HL.out.later (by (repeat' (first | (with_reducible exact G.refl _) | (with_reducible assumption) | (with_reducible refine G.drewN ?_ _) | (with_reducible refine G.drew ?_) | (with_reducible refine G.alloc ?_ _) | (with_reducible refine G.setCell ?_ (by first | (with_reducible exact Nat.le_refl _) | (simp; done) | (simp; omega) | omega) _) | (with_reducible refine G.trans ?_ (by assumption))))))).mono ?_
    rintro e w5 ⟨rfl, hG5⟩
    rw [er_ok HP.out, if_pos HP.out, ← HC.out]
    clear c0a c0b c0c c1a c1b c1c
    have gb0_5 := gb0_4.trans (show G w4 w5 by (repeat' (first | (with_reducible exact G.refl _) | (with_reducible assumption) | (with_reducible refine G.drewN ?_ _) | (with_reducible refine G.drew ?_) | (with_reducible refine G.alloc ?_ _) | (with_reducible refine G.setCell ?_ (by first | (with_reducible exact Nat.le_refl _) | (simp; done) | (simp; omega) | omega) _) | (with_reducible refine G.trans ?_ (by assumption)))))
    clear gb0_4
    have gb1_5 := gb1_4.trans (show G w4 w5 by (repeat' (first | (with_reducible exact G.refl _) | (with_reducible assumption) | (with_reducible refine G.drewN ?_ _) | (with_reducible refine G.drew ?_) | (with_reducible refine G.alloc ?_ _) | (with_reducible refine G.setCell ?_ (by first | (with_reducible exact Nat.le_refl _) | (simp; done) | (simp; omega) | omega) _) | (with_reducible refine G.trans ?_ (by assumption)))))
    clear gb1_4
    obtain ⟨c0a, c0b, c0c⟩ := tri_at (n := w.heap.size) (by simp) gb0_5
    obtain ⟨c1a, c1b, c1c⟩ := tri_at (n := w.heap.size + 1) (by simp) gb1_5
    have gw5 : G w w5 := gw4.trans (show G w4 w5 by (repeat' (first | (with_reducible exact G.refl _) | (with_reducible assumption) | (with_reducible refine G.drewN ?_ _) | (with_reducible refine G.drew ?_) | (with_reducible refine G.alloc ?_ _) | (with_reducible refine G.setCell ?_ (by first | (with_reducible exact Nat.le_refl _) | (simp; done) | (simp; omega) | omega) _) | (with_reducible refine G.trans ?_ (by assumption)))))
    go_wp2_with fail
    refine (Fifths_any s a o _ (HT.out.later (by (repeat' (first | (with_reducible exact G.refl _) | (with_reducible assumption) | (with_reducible refine G.drewN ?_ _) | (with_reducible refine G.drew ?_) | (with_reducible refine G.alloc ?_ _) | (with_reducible refine G.setCell ?_ (by first | (with_reducible exact Nat.le_refl _) | (simp; done) | (simp; omega) | omega) _) | (with_reducible refine G.trans ?_ (by assumption)))))).hts (HL.out.later (by (repeat' (first | (with_reducible exact G.refl _) | (with_reducible assumption) | (with_reducible refine G.drewN ?_ _) | (with_reducible refine G.drew ?_) | (with_reducible refine G.alloc ?_ _) | (with_reducible refine G.setCell ?_ (by first | (with_reducible exact Nat.le_refl _) | (simp; done) | (simp; omega) | omega) _) | (with_reducible refine G.trans ?_ (by assumption))))))).mono ?_
    rintro e w6 ⟨rfl, hG6⟩
    rw [er_ok HQ.out, if_pos HQ.out, ← HD.out]
    clear c0a c0b c0c c1a c1b c1c
    have gb0_6 := gb0_5.trans (show G w5 w6 by (repeat' (first | (with_reducible exact G.refl _) | (with_reducible assumption) | (with_reducible refine G.drewN ?_ _) | (with_reducible refine G.drew ?_) | (with_reducible refine G.alloc ?_ _) | (with_reducible refine G.setCell ?_ (by first | (with_reducible exact Nat.le_refl _) | (simp; done) | (simp; omega) | omega) _) | (with_reducible refine G.trans ?_ (by assumption)))))
    clear gb0_5
    have gb1_6 := gb1_5.trans (show G w5 w6 by (repeat' (first | (with_reducible exact G.refl _) | (with_reducible assumption) | (with_reducible refine G.drewN ?_ _) | (with_reducible refine G.drew ?_) | (with_reducible refine G.alloc ?_ _) | (with_reducible refine G.setCell ?_ (by first | (with_reducible exact Nat.le_refl _) | (simp; done) | (simp; omega) | omega) _) | (with_reducible refine G.trans ?_ (by assumption)))))
    clear gb1_5
    obtain ⟨c0a, c0b, c0c⟩ := tri_at (n := w.heap.size) (by simp) gb0_6
    obtain ⟨c1a, c1b, c1c⟩ := tri_at (n := w.heap.size + 1) (by simp) gb1_6
    have gw6 : G w w6 := gw5.trans (show G w5 w6 by (repeat' (first | (with_reducible exact G.refl _) | (with_reducible assumption) | (with_reducible refine G.drewN ?_ _) | (with_reducible refine G.drew ?_) | (with_reducible refine G.alloc ?_ _) | (with_reducible refine G.setCell ?_ (by first | (with_reducible exact Nat.le_refl _) | (simp; done) | (simp; omega) | omega) _) | (with_reducible refine G.trans ?_ (by assumption)))))
    go_wp2_with fail
    refine (known_any _ (HT.out.later (by (repeat' (first | (with_reducible exact G.refl _) | (with_reducible assumption) | (with_reducible refine G.drewN ?_ _) | (with_reducible refine G.drew ?_) | (with_reducible refine G.alloc ?_ _) | (with_reducible refine G.setCell ?_ (by first | (with_reducible exact Nat.le_refl _) | (simp; done) | (simp; omega) | omega) _) | (with_reducible refine G.trans ?_ (by assumption))))))).mono ?_
    rintro e w7 ⟨rfl, hG7⟩
    clear c0a c0b c0c c1a c1b c1c
    have gb0_7 := gb0_6.trans (show G w6 w7 by (repeat' (first | (with_reducible exact G.refl _) | (with_reducible assumption) | (with_reducible refine G.drewN ?_ _) | (with_reducible refine G.drew ?_) | (with_reducible refine G.alloc ?_ _) | (with_reducible refine G.setCell ?_ (by first | (with_reducible exact Nat.le_refl _) | (simp; done) | (simp; omega) | omega) _) | (with_reducible refine G.trans ?_ (by assumption)))))
    clear gb0_6
    have gb1_7 := gb1_6.trans (show G w6 w7 by (repeat' (first | (with_reducible exact G.refl _) | (with_reducible assumption) | (with_reducible refine G.drewN ?_ _) | (with_reducible refine G.drew ?_) | (with_reducible refine G.alloc ?_ _) | (with_reducible refine G.setCell ?_ (by first | (with_reducible exact Nat.le_refl _) | (simp; done) | (simp; omega) | omega) _) | (with_reducible refine G.trans ?_ (by assumption)))))
    clear gb1_6
    obtain ⟨c0a, c0b, c0c⟩ := tri_at (n := w.heap.size) (by simp) gb0_7
    obtain ⟨c1a, c1b, c1c⟩ := tri_at (n := w.heap.size + 1) (by simp) gb1_7
    have gw7 : G w w7 := gw6.trans (show G w6 w7 by (repeat' (first | (with_reducible exact G.refl _) | (with_reducible assumption) | (with_reducible refine G.drewN ?_ _) | (with_reducible refine G.drew ?_) | (with_reducible refine G.alloc ?_ _) | (with_reducible refine G.setCell ?_ (by first | (with_reducible exact Nat.le_refl _) | (simp; done) | (simp; omega) | omega) _) | (with_reducible refine G.trans ?_ (by assumption)))))
    go_wp2_with fail
    go_ret
    exact ⟨rfl, by (repeat' (first | (with_reducible exact G.refl _) | (with_reducible assumption) | (with_reducible refine G.drewN ?_ _) | (with_reducible refine G.drew ?_) | (with_reducible refine G.alloc ?_ _) | (with_reducible refine G.setCell ?_ (by first | (with_reducible exact Nat.le_refl _) | (simp; done) | (simp; omega) | omega) _) | (with_reducible refine G.trans ?_ (by assumption))))⟩
  · have HP := Lib.hid hp
    have HQ := Lib.hid hq
    obtain ⟨m, HM⟩ : ∃ z : Int, Hid (z = ht s a o) := ⟨_, rfl⟩
    obtain ⟨n, HN⟩ : ∃ z : Int, Hid (z = ht x b c) := ⟨_, rfl⟩
    obtain ⟨q, HC⟩ : ∃ z : Int, Hid (z = Q s + 7 * a) := ⟨_, rfl⟩
    obtain ⟨r, HD⟩ : ∃ z : Int, Hid (z = Q x + 7 * b) := ⟨_, rfl⟩
    have m0 : 0 ≤ m := by rw [HM.out]; exact HP.out.2.1
    have m1 : m ≤ 127 := by rw [HM.out]; exact HP.out.2.2
    have n0 : 0 ≤ n := by rw [HN.out]; exact HQ.out.2.1
    have n1 : n ≤ 127 := by rw [HN.out]; exact HQ.out.2.2
    have q0 : -15 ≤ q := by rw [HC.out]; exact (fq_bd HP.out.1).1
    have q1 : q ≤ 19 := by rw [HC.out]; exact (fq_bd HP.out.1).2
    have r0 : -15 ≤ r := by rw [HD.out]; exact (fq_bd HQ.out.1).1
    have r1 : r ≤ 19 := by rw [HD.out]; exact (fq_bd HQ.out.1).2
    have hmod : ((7 * (q - r) - (m - n)).tmod 12 == 0) = true := by rw [HM.out, HN.out, HC.out, HD.out]; exact fifths_mod HP.out.1 HQ.out.1

    have hd : ¬ (m = n ∧ q = r) := fun k => he (same_of hp.1 hq.1 (by rw [← HM.out, ← HN.out]; exact k.1) (by rw [← HC.out, ← HD.out]; exact k.2))
    clear hp hq
    by_cases hmn : m = n
    · have hqr : q ≠ r := fun k => hd ⟨hmn, k⟩
      subst hmn
      have h12 : ((q - r).tmod 12 == 0) = true := by
        rw [beq_iff_eq, Int.sub_self, Int.sub_zero] at hmod
        rw [beq_iff_eq]
        exact tmod_of7 hmod
      have hm7 : ((7 * (q - r)).tmod 12 == 0) = true := by rw [Int.sub_self, Int.sub_zero] at hmod; exact hmod
      have hqr' : (q == r) = false := beq_false_of_ne hqr
      clear hd
      go_enter Tryd.func11, Tryd.ntmps11
      go_wp2_with fail
      refine (rExists_any s a o _).mono ?_
      rintro e w1 ⟨rfl, hG1⟩
      rw [decide_eq_true HP.out]
      have gb0_1 : G (w.alloc (.cells #[.int .i64 s, .int .i64 a, .int .i64 o] 23)) w1 := by (repeat' (first | (with_reducible exact G.refl _) | (with_reducible assumption) | (with_reducible refine G.drewN ?_ _) | (with_reducible refine G.drew ?_) | (with_reducible refine G.alloc ?_ _) | (with_reducible refine G.setCell ?_ (by first | (with_reducible exact Nat.le_refl _) | (simp; done) | (simp; omega) | omega) _) | (with_reducible refine G.trans ?_ (by assumption))))
      have gb1_1 : G ((w.alloc (.cells #[.int .i64 s, .int .i64 a, .int .i64 o] 23)).alloc (.cells #[.int .i64 x, .int .i64 b, .int .i64 c] 23)) w1 := by (repeat' (first | (with_reducible exact G.refl _) | (with_reducible assumption) | (with_reducible refine G.drewN ?_ _) | (with_reducible refine G.drew ?_) | (with_reducible refine G.alloc ?_ _) | (with_reducible refine G.setCell ?_ (by first | (with_reducible exact Nat.le_refl _) | (simp; done) | (simp; omega) | omega) _) | (with_reducible refine G.trans ?_ (by assumption))))
      obtain ⟨c0a, c0b, c0c⟩ := tri_at (n := w.heap.size) (by simp) gb0_1
      obtain ⟨c1a, c1b, c1c⟩ := tri_at (n := w.heap.size + 1) (by simp) gb1_1
      have gw1 : G w w1 := by (repeat' (first | (with_reducible exact G.refl _) | (with_reducible assumption) | (with_reducible refine G.drewN ?_ _) | (with_reducible refine G.drew ?_) | (with_reducible refine G.alloc ?_ _) | (with_reducible refine G.setCell ?_ (by first | (with_reducible exact Nat.le_refl _) | (simp; done) | (simp; omega) | omega) _) | (with_reducible refine G.trans ?_ (by assumption))))
      go_wp2_with fail
      refine (rExists_any x b c _).mono ?_
      rintro e w2 ⟨rfl, hG2⟩
      rw [decide_eq_true HQ.out]
      clear c0a c0b c0c c1a c1b c1c
      have gb0_2 := gb0_1.trans (show G w1 w2 by (repeat' (first | (with_reducible exact G.refl _) | (with_reducible assumption) | (with_reducible refine G.drewN ?_ _) | (with_reducible refine G.drew ?_) | (with_reducible refine G.alloc ?_ _) | (with_reducible refine G.setCell ?_ (by first | (with_reducible exact Nat.le_refl _) | (simp; done) | (simp; omega) | omega) _) | (with_reducible refine G.trans ?_ (by assumption)))))
      clear gb0_1
      have gb1_2 := gb1_1.trans (show G w1 w2 by (repeat' (first | (with_reducible exact G.refl _) | (with_reducible assumption) | (with_reducible refine G.drewN ?_ _) | (with_reducible refine G.drew ?_) | (with_reducible refine G.alloc ?_ _) | (with_reducible refine G.setCell ?_ (by first | (with_reducible exact Nat.le_refl _) | (simp; done) | (simp; omega) | omega) _) | (with_reducible refine G.trans ?_ (by assumption)))))
      clear gb1_1
      obtain ⟨c0a, c0b, c0c⟩ := tri_at (n := w.heap.size) (by simp) gb0_2
      obtain ⟨c1a, c1b, c1c⟩ := tri_at (n := w.heap.size + 1) (by simp) gb1_2
      have gw2 : G w w2 := gw1.trans (show G w1 w2 by (repeat' (first | (with_reducible exact G.refl _) | (with_reducible assumption) | (with_reducible refine G.drewN ?_ _) | (with_reducible refine G.drew ?_) | (with_reducible refine G.alloc ?_ _) | (with_reducible refine G.setCell ?_ (by first | (with_reducible exact Nat.le_refl _) | (simp; done) | (simp; omega) | omega) _) | (with_reducible refine G.trans ?_ (by assumption)))))
      go_wp2_with fail
      refine (Number_any s a o _ (HT.out.later (by (repeat' (first | (with_reducible exact G.refl _) | (with_reducible assumption) | (with_reducible refine G.drewN ?_ _) | (with_reducible refine G.drew ?_) | (with_reducible refine G.alloc ?_ _) | (with_reducible refine G.setCell ?_ (by first | (with_reducible exact Nat.le_refl _) | (simp; done) | (simp; omega) | omega) _) | (with_reducible refine G.trans ?_ (by assumption)))))).hts).mono ?_
      rintro e w3 ⟨rfl, hG3⟩
      rw [er_ok HP.out, if_pos HP.out, ← HM.out]
      clear c0a c0b c0c c1a c1b c1c
      have gb0_3 := gb0_2.trans (show G w2 w3 by (repeat' (first | (with_reducible exact G.refl _) | (with_reducible assumption) | (with_reducible refine G.drewN ?_ _) | (with_reducible refine G.drew ?_) | (with_reducible refine G.alloc ?_ _) | (with_reducible refine G.setCell ?_ (by first | (with_reducible exact Nat.le_refl _) | (simp; done) | (simp; omega) | omega) _) | (with_reducible refine G.trans ?_ (by assumption)))))
      clear gb0_2
      have gb1_3 := gb1_2.trans (show G w2 w3 by (repeat' (first | (with_reducible exact G.refl _) | (with_reducible assumption) | (with_reducible refine G.drewN ?_ _) | (with_reducible refine G.drew ?_) | (with_reducible refine G.alloc ?_ _) | (with_reducible refine G.setCell ?_ (by first | (with_reducible exact Nat.le_refl _) | (simp; done) | (simp; omega) | omega) _) | (with_reducible refine G.trans ?_ (by assumption)))))
      clear gb1_2
      obtain ⟨c0a, c0b, c0c⟩ := tri_at (n := w.heap.size) (by simp) gb0_3
      obtain ⟨c1a, c1b, c1c⟩ := tri_at (n := w.heap.size + 1) (by simp) gb1_3
      have gw3 : G w w3 := gw2.trans (show G w2 w3 by (repeat' (first | (with_reducible exact G.refl _) | (with_reducible assumption) | (with_reducible refine G.drewN ?_ _) | (with_reducible refine G.drew ?_) | (with_reducible refine G.alloc ?_ _) | (with_reducible refine G.setCell ?_ (by first | (with_reducible exact Nat.le_refl _) | (simp; done) | (simp; omega) | omega) _) | (with_reducible refine G.trans ?_ (by assumption)))))
      go_wp2_with fail
      refine (Number_any x b c _ (HT.out.later (by (repeat' (first | (with_reducible exact G.refl _) | (with_reducible assumption) | (with_reducible refine G.drewN ?_ _) | (with_reducible refine G.drew ?_) | (with_reducible refine G.alloc ?_ _) | (with_reducible refine G.setCell ?_ (by first | (with_reducible exact Nat.le_refl _) | (simp; done) | (simp; omega) | omega) _) | (with_reducible refine G.trans ?_ (by assumption)))))).hts).mono ?_
      rintro e w4 ⟨rfl, hG4⟩
      rw [er_ok HQ.out, if_pos HQ.out, ← HN.out]
      clear c0a c0b c0c c1a c1b c1c
      have gb0_4 := gb0_3.trans (show G w3 w4 by (repeat' (first | (with_reducible exact G.refl _) | (with_reducible assumption) | (with_reducible refine G.drewN ?_ _) | (with_reducible refine G.drew ?_) | (with_reducible refine G.alloc ?_ _) | (with_reducible refine G.setCell ?_ (by first | (with_reducible exact Nat.le_refl _) | (simp; done) | (simp; omega) | omega) _) | (with_reducible refine G.trans ?_ (by assumption)))))
      clear gb0_3
      have gb1_4 := gb1_3.trans (show G w3 w4 by (repeat' (first | (with_reducible exact G.refl _) | (with_reducible assumption) | (with_reducible refine G.drewN ?_ _) | (with_reducible refine G.drew ?_) | (with_reducible refine G.alloc ?_ _) | (with_reducible refine G.setCell ?_ (by first | (with_reducible exact Nat.le_refl _) | (simp; done) | (simp; omega) | omega) _) | (with_reducible refine G.trans ?_ (by assumption)))))
      clear gb1_3
      obtain ⟨c0a, c0b, c0c⟩ := tri_at (n := w.heap.size) (by simp) gb0_4
      obtain ⟨c1a, c1b, c1c⟩ := tri_at (n := w.heap.size + 1) (by simp) gb1_4
      have gw4 : G w w4 := gw3.trans (show G w3 w4 by (repeat' (first | (with_reducible exact G.refl _) | (with_reducible assumption) | (with_reducible refine G.drewN ?_ _) | (with_reducible refine G.drew ?_) | (with_reducible refine G.alloc ?_ _) | (with_reducible refine G.setCell ?_ (by first | (with_reducible exact Nat.le_refl _) | (simp; done) | (simp; omega) | omega) _) | (with_reducible refine G.trans ?_ (by assumption)))))
      go_wp2_with fail
      refine (Fifths_any s a o _ (HT.out.later (by (repeat' (first | (with_reducible exact G.refl _) | (with_reducible assumption) | (with_reducible refine G.drewN ?_ _) | (with_reducible refine G.drew ?_) | (with_reducible refine G.alloc ?_ _) | (with_reducible refine G.setCell ?_ (by first | (with_reducible exact Nat.le_refl _) | (simp; done) | (simp; omega) | omega) _) | (with_reducible refine G.trans ?_ (by assumption)))))).hts (HL.out.later (by (repeat' (first | (with_reducible exact G.refl _) | (with_reducible assumption) | (with_reducible refine G.drewN ?_ _) | (with_reducible refine G.drew ?_) | (with_reducible refine G.alloc ?_ _) | (with_reducible refine G.setCell ?_ (by first | (with_reducible exact Nat.le_refl _) | (simp; done) | (simp; omega) | omega) _) | (with_reducible refine G.trans ?_ (by assumption))))))).mono ?_
      rintro e w5 ⟨rfl, hG5⟩
      rw [er_ok HP.out, if_pos HP.out, ← HC.out]
      clear c0a c0b c0c c1a c1b c1c
      have gb0_5 := gb0_4.trans (show G w4 w5 by (repeat' (first | (with_reducible exact G.refl _) | (with_reducible assumption) | (with_reducible refine G.drewN ?_ _) | (with_reducible refine G.drew ?_) | (with_reducible refine G.alloc ?_ _) | (with_reducible refine G.setCell ?_ (by first | (with_reducible exact Nat.le_refl _) | (simp; done) | (simp; omega) | omega) _) | (with_reducible refine G.trans ?_ (by assumption)))))
      clear gb0_4
      have gb1_5 := gb1_4.trans (show G w4 w5 by (repeat' (first | (with_reducible exact G.refl _) | (with_reducible assumption) | (with_reducible refine G.drewN ?_ _) | (with_reducible refine G.drew ?_) | (with_reducible refine G.alloc ?_ _) | (with_reducible refine G.setCell ?_ (by first | (with_reducible exact Nat.le_refl _) | (simp; done) | (simp; omega) | omega) _) | (with_reducible refine G.trans ?_ (by assumption)))))
      clear gb1_4
      obtain ⟨c0a, c0b, c0c⟩ := tri_at (n := w.heap.size) (by simp) gb0_5
      obtain ⟨c1a, c1b, c1c⟩ := tri_at (n := w.heap.size + 1) (by simp) gb1_5
      have gw5 : G w w5 := gw4.trans (show G w4 w5 by (repeat' (first | (with_reducible exact G.refl _) | (with_reducible assumption) | (with_reducible refine G.drewN ?_ _) | (with_reducible refine G.drew ?_) | (with_reducible refine G.alloc ?_ _) | (with_reducible refine G.setCell ?_ (by first | (with_reducible exact Nat.le_refl _) | (simp; done) | (simp; omega) | omega) _) | (with_reducible refine G.trans ?_ (by assumption)))))
      go_wp2_with fail
      refine (Fifths_any x b c _ (HT.out.later (by (repeat' (first | (with_reducible exact G.refl _) | (with_reducible assumption) | (with_reducible refine G.drewN ?_ _) | (with_reducible refine G.drew ?_) | (with_reducible refine G.alloc ?_ _) | (with_reducible refine G.setCell ?_ (by first | (with_reducible exact Nat.le_refl _) | (simp; done) | (simp; omega) | omega) _) | (with_reducible refine G.trans ?_ (by assumption)))))).hts (HL.out.later (by (repeat' (first | (with_reducible exact G.refl _) | (with_reducible assumption) | (with_reducible refine G.drewN ?_ _) | (with_reducible refine G.drew ?_) | (with_reducible refine G.alloc ?_ _) | (with_reducible refine G.setCell ?_ (by first | (with_reducible exact Nat.le_refl _) | (simp; done) | (simp; omega) | omega) _) | (with_reducible refine G.trans ?_ (by assumption))))))).mono ?_
      rintro e w6 ⟨rfl, hG6⟩
      rw [er_ok HQ.out, if_pos HQ.out, ← HD.out]
      clear c0a c0b c0c c1a c1b c1c
      have gb0_6 := gb0_5.trans (show G w5 w6 by (repeat' (first | (with_reducible exact G.refl _) | (with_reducible assumption) | (with_reducible refine G.drewN ?_ _) | (with_reducible refine G.drew ?_) | (with_reducible refine G.alloc ?_ _) | (with_reducible refine G.setCell ?_ (by first | (with_reducible exact Nat.le_refl _) | (simp; done) | (simp; omega) | omega) _) | (with_reducible refine G.trans ?_ (by assumption)))))
      clear gb0_5
      have gb1_6 := gb1_5.trans (show G w5 w6 by (repeat' (first | (with_reducible exact G.refl _) | (with_reducible assumption) | (with_reducible refine G.drewN ?_ _) | (with_reducible refine G.drew ?_) | (with_reducible refine G.alloc ?_ _) | (with_reducible refine G.setCell ?_ (by first | (with_reducible exact Nat.le_refl _) | (simp; done) | (simp; omega) | omega) _) | (with_reducible refine G.trans ?_ (by assumption)))))
      clear gb1_5
      obtain ⟨c0a, c0b, c0c⟩ := tri_at (n := w.heap.size) (by simp) gb0_6
      obtain ⟨c1a, c1b, c1c⟩ := tri_at (n := w.heap.size + 1) (by simp) gb1_6
      have gw6 : G w w6 := gw5.trans (show G w5 w6 by (repeat' (first | (with_reducible exact G.refl _) | (with_reducible assumption) | (with_reducible refine G.drewN ?_ _) | (with_reducible refine G.drew ?_) | (with_reducible refine G.alloc ?_ _) | (with_reducible refine G.setCell ?_ (by first | (with_reducible exact Nat.le_refl _) | (simp; done) | (simp; omega) | omega) _) | (with_reducible refine G.trans ?_ (by assumption)))))
      go_wp2_with fail
      refine (known_any _ (HT.out.later (by (repeat' (first | (with_reducible exact G.refl _) | (with_reducible assumption) | (with_reducible refine G.drewN ?_ _) | (with_reducible refine G.drew ?_) | (with_reducible refine G.alloc ?_ _) | (with_reducible refine G.setCell ?_ (by first | (with_reducible exact Nat.le_refl _) | (simp; done) | (simp; omega) | omega) _) | (with_reducible refine G.trans ?_ (by assumption))))))).mono ?_
      rintro e w7 ⟨rfl, hG7⟩
      clear c0a c0b c0c c1a c1b c1c
      have gb0_7 := gb0_6.trans (show G w6 w7 by (repeat' (first | (with_reducible exact G.refl _) | (with_reducible assumption) | (with_reducible refine G.drewN ?_ _) | (with_reducible refine G.drew ?_) | (with_reducible refine G.alloc ?_ _) | (with_reducible refine G.setCell ?_ (by first | (with_reducible exact Nat.le_refl _) | (simp; done) | (simp; omega) | omega) _) | (with_reducible refine G.trans ?_ (by assumption)))))
      clear gb0_6
      have gb1_7 := gb1_6.trans (show G w6 w7 by (repeat' (first | (with_reducible exact G.refl _) | (with_reducible assumption) | (with_reducible refine G.drewN ?_ _) | (with_reducible refine G.drew ?_) | (with_reducible refine G.alloc ?_ _) | (with_reducible refine G.setCell ?_ (by first | (with_reducible exact Nat.le_refl _) | (simp; done) | (simp; omega) | omega) _) | (with_reducible refine G.trans ?_ (by assumption)))))
      clear gb1_6
      obtain ⟨c0a, c0b, c0c⟩ := tri_at (n := w.heap.size) (by simp) gb0_7
      obtain ⟨c1a, c1b, c1c⟩ := tri_at (n := w.heap.size + 1) (by simp) gb1_7
      have gw7 : G w w7 := gw6.trans (show G w6 w7 by (repeat' (first | (with_reducible exact G.refl _) | (with_reducible assumption) | (with_reducible refine G.drewN ?_ _) | (with_reducible refine G.drew ?_) | (with_reducible refine G.alloc ?_ _) | (with_reducible refine G.setCell ?_ (by first | (with_reducible exact Nat.le_refl _) | (simp; done) | (simp; omega) | omega) _) | (with_reducible refine G.trans ?_ (by assumption)))))
      go_wp2_with fail
      all_goals first
        | (exfalso; omega)
        | (go_ret; exact ⟨rfl, by (repeat' (first | (with_reducible exact G.refl _) | (with_reducible assumption) | (with_reducible refine G.drewN ?_ _) | (with_reducible refine G.drew ?_) | (with_reducible refine G.alloc ?_ _) | (with_reducible refine G.setCell ?_ (by first | (with_reducible exact Nat.le_refl _) | (simp; done) | (simp; omega) | omega) _) | (with_reducible refine G.trans ?_ (by assumption))))⟩)
    · have hmn' : (m == n) = false := beq_false_of_ne hmn
      have hmn2 : (m - n == 0) = false := beq_false_of_ne (by omega)
      clear hd
      go_enter Tryd.func11, Tryd.ntmps11
      go_wp2_with fail
      refine (rExists_any s a o _).mono ?_
      rintro e w1 ⟨rfl, hG1⟩
      rw [decide_eq_true HP.out]
      have gb0_1 : G (w.alloc (.cells #[.int .i64 s, .int .i64 a, .int .i64 o] 23)) w1 := by (repeat' (first | (with_reducible exact G.refl _) | (with_reducible assumption) | (with_reducible refine G.drewN ?_ _) | (with_reducible refine G.drew ?_) | (with_reducible refine G.alloc ?_ _) | (with_reducible refine G.setCell ?_ (by first | (with_reducible exact Nat.le_refl _) | (simp; done) | (simp; omega) | omega) _) | (with_reducible refine G.trans ?_ (by assumption))))
      have gb1_1 : G ((w.alloc (.cells #[.int .i64 s, .int .i64 a, .int .i64 o] 23)).alloc (.cells #[.int .i64 x, .int .i64 b, .int .i64 c] 23)) w1 := by (repeat' (first | (with_reducible exact G.refl _) | (with_reducible assumption) | (with_reducible refine G.drewN ?_ _) | (with_reducible refine G.drew ?_) | (with_reducible refine G.alloc ?_ _) | (with_reducible refine G.setCell ?_ (by first | (with_reducible exact Nat.le_refl _) | (simp; done) | (simp; omega) | omega) _) | (with_reducible refine G.trans ?_ (by assumption))))
      obtain ⟨c0a, c0b, c0c⟩ := tri_at (n := w.heap.size) (by simp) gb0_1
      obtain ⟨c1a, c1b, c1c⟩ := tri_at (n := w.heap.size + 1) (by simp) gb1_1
      have gw1 : G w w1 := by (repeat' (first | (with_reducible exact G.refl _) | (with_reducible assumption) | (with_reducible refine G.drewN ?_ _) | (with_reducible refine G.drew ?_) | (with_reducible refine G.alloc ?_ _) | (with_reducible refine G.setCell ?_ (by first | (with_reducible exact Nat.le_refl _) | (simp; done) | (simp; omega) | omega) _) | (with_reducible refine G.trans ?_ (by assumption))))
      go_wp2_with fail
      refine (rExists_any x b c _).mono ?_
      rintro e w2 ⟨rfl, hG2⟩
      rw [decide_eq_true HQ.out]
      clear c0a c0b c0c c1a c1b c1c
      have gb0_2 := gb0_1.trans (show G w1 w2 by (repeat' (first | (with_reducible exact G.refl _) | (with_reducible assumption) | (with_reducible refine G.drewN ?_ _) | (with_reducible refine G.drew ?_) | (with_reducible refine G.alloc ?_ _) | (with_reducible refine G.setCell ?_ (by first | (with_reducible exact Nat.le_refl _) | (simp; done) | (simp; omega) | omega) _) | (with_reducible refine G.trans ?_ (by assumption)))))
      clear gb0_1
      have gb1_2 := gb1_1.trans (show G w1 w2 by (repeat' (first | (with_reducible exact G.refl _) | (with_reducible assumption) | (with_reducible refine G.drewN ?_ _) | (with_reducible refine G.drew ?_) | (with_reducible refine G.alloc ?_ _) | (with_reducible refine G.setCell ?_ (by first | (with_reducible exact Nat.le_refl _) | (simp; done) | (simp; omega) | omega) _) | (with_reducible refine G.trans ?_ (by assumption)))))
      clear gb1_1
      obtain ⟨c0a, c0b, c0c⟩ := tri_at (n := w.heap.size) (by simp) gb0_2
      obtain ⟨c1a, c1b, c1c⟩ := tri_at (n := w.heap.size + 1) (by simp) gb1_2
      have gw2 : G w w2 := gw1.trans (show G w1 w2 by (repeat' (first | (with_reducible exact G.refl _) | (with_reducible assumption) | (with_reducible refine G.drewN ?_ _) | (with_reducible refine G.drew ?_) | (with_reducible refine G.alloc ?_ _) | (with_reducible refine G.setCell ?_ (by first | (with_reducible exact Nat.le_refl _) | (simp; done) | (simp; omega) | omega) _) | (with_reducible refine G.trans ?_ (by assumption)))))
      go_wp2_with fail
      refine (Number_any s a o _ (HT.out.later (by (repeat' (first | (with_reducible exact G.refl _) | (with_reducible assumption) | (with_reducible refine G.drewN ?_ _) | (with_reducible refine G.drew ?_) | (with_reducible refine G.alloc ?_ _) | (with_reducible refine G.setCell ?_ (by first | (with_reducible exact Nat.le_refl _) | (simp; done) | (simp; omega) | omega) _) | (with_reducible refine G.trans ?_ (by assumption)))))).hts).mono ?_
      rintro e w3 ⟨rfl, hG3⟩
      rw [er_ok HP.out, if_pos HP.out, ← HM.out]
      clear c0a c0b c0c c1a c1b c1c
      have gb0_3 := gb0_2.trans (show G w2 w3 by (repeat' (first | (with_reducible exact G.refl _) | (with_reducible assumption) | (with_reducible refine G.drewN ?_ _) | (with_reducible refine G.drew ?_) | (with_reducible refine G.alloc ?_ _) | (with_reducible refine G.setCell ?_ (by first | (with_reducible exact Nat.le_refl _) | (simp; done) | (simp; omega) | omega) _) | (with_reducible refine G.trans ?_ (by assumption)))))
      clear gb0_2
      have gb1_3 := gb1_2.trans (show G w2 w3 by (repeat' (first | (with_reducible exact G.refl _) | (with_reducible assumption) | (with_reducible refine G.drewN ?_ _) | (with_reducible refine G.drew ?_) | (with_reducible refine G.alloc ?_ _) | (with_reducible refine G.setCell ?_ (by first | (with_reducible exact Nat.le_refl _) | (simp; done) | (simp; omega) | omega) _) | (with_reducible refine G.trans ?_ (by assumption)))))
      clear gb1_2
      obtain ⟨c0a, c0b, c0c⟩ := tri_at (n := w.heap.size) (by simp) gb0_3
      obtain ⟨c1a, c1b, c1c⟩ := tri_at (n := w.heap.size + 1) (by simp) gb1_3
      have gw3 : G w w3 := gw2.trans (show G w2 w3 by (repeat' (first | (with_reducible exact G.refl _) | (with_reducible assumption) | (with_reducible refine G.drewN ?_ _) | (with_reducible refine G.drew ?_) | (with_reducible refine G.alloc ?_ _) | (with_reducible refine G.setCell ?_ (by first | (with_reducible exact Nat.le_refl _) | (simp; done) | (simp; omega) | omega) _) | (with_reducible refine G.trans ?_ (by assumption)))))
      go_wp2_with fail
      refine (Number_any x b c _ (HT.out.later (by (repeat' (first | (with_reducible exact G.refl _) | (with_reducible assumption) | (with_reducible refine G.drewN ?_ _) | (with_reducible refine G.drew ?_) | (with_reducible refine G.alloc ?_ _) | (with_reducible refine G.setCell ?_ (by first | (with_reducible exact Nat.le_refl _) | (simp; done) | (simp; omega) | omega) _) | (with_reducible refine G.trans ?_ (by assumption)))))).hts).mono ?_
      rintro e w4 ⟨rfl, hG4⟩
      rw [er_ok HQ.out, if_pos HQ.out, ← HN.out]
      clear c0a c0b c0c c1a c1b c1c
      have gb0_4 := gb0_3.trans (show G w3 w4 by (repeat' (first | (with_reducible exact G.refl _) | (with_reducible assumption) | (with_reducible refine G.drewN ?_ _) | (with_reducible refine G.drew ?_) | (with_reducible refine G.alloc ?_ _) | (with_reducible refine G.setCell ?_ (by first | (with_reducible exact Nat.le_refl _) | (simp; done) | (simp; omega) | omega) _) | (with_reducible refine G.trans ?_ (by assumption)))))
      clear gb0_3
      have gb1_4 := gb1_3.trans (show G w3 w4 by (repeat' (first | (with_reducible exact G.refl _) | (with_reducible assumption) | (with_reducible refine G.drewN ?_ _) | (with_reducible refine G.drew ?_) | (with_reducible refine G.alloc ?_ _) | (with_reducible refine G.setCell ?_ (by first | (with_reducible exact Nat.le_refl _) | (simp; done) | (simp; omega) | omega) _) | (with_reducible refine G.trans ?_ (by assumption)))))
      clear gb1_3
      obtain ⟨c0a, c0b, c0c⟩ := tri_at (n := w.heap.size) (by simp) gb0_4
      obtain ⟨c1a, c1b, c1c⟩ := tri_at (n := w.heap.size + 1) (by simp) gb1_4
      have gw4 : G w w4 := gw3.trans (show G w3 w4 by (repeat' (first | (with_reducible exact G.refl _) | (with_reducible assumption) | (with_reducible refine G.drewN ?_ _) | (with_reducible refine G.drew ?_) | (with_reducible refine G.alloc ?_ _) | (with_reducible refine G.setCell ?_ (by first | (with_reducible exact Nat.le_refl _) | (simp; done) | (simp; omega) | omega) _) | (with_reducible refine G.trans ?_ (by assumption)))))
      go_wp2_with fail
      refine (Fifths_any s a o _ (HT.out.later (by (repeat' (first | (with_reducible exact G.refl _) | (with_reducible assumption) | (with_reducible refine G.drewN ?_ _) | (with_reducible refine G.drew ?_) | (with_reducible refine G.alloc ?_ _) | (with_reducible refine G.setCell ?_ (by first | (with_reducible exact Nat.le_refl _) | (simp; done) | (simp; omega) | omega) _) | (with_reducible refine G.trans ?_ (by assumption)))))).hts (HL.out.later (by (repeat' (first | (with_reducible exact G.refl _) | (with_reducible assumption) | (with_reducible refine G.drewN ?_ _) | (with_reducible refine G.drew ?_) | (with_reducible refine G.alloc ?_ _) | (with_reducible refine G.setCell ?_ (by first | (with_reducible exact Nat.le_refl _) | (simp; done) | (simp; omega) | omega) _) | (with_reducible refine G.trans ?_ (by assumption))))))).mono ?_
      rintro e w5 ⟨rfl, hG5⟩
      rw [er_ok HP.out, if_pos HP.out, ← HC.out]
      clear c0a c0b c0c c1a c1b c1c
      have gb0_5 := gb0_4.trans (show G w4 w5 by (repeat' (first | (with_reducible exact G.refl _) | (with_reducible assumption) | (with_reducible refine G.drewN ?_ _) | (with_reducible refine G.drew ?_) | (with_reducible refine G.alloc ?_ _) | (with_reducible refine G.setCell ?_ (by first | (with_reducible exact Nat.le_refl _) | (simp; done) | (simp; omega) | omega) _) | (with_reducible refine G.trans ?_ (by assumption)))))
      clear gb0_4
      have gb1_5 := gb1_4.trans (show G w4 w5 by (repeat' (first | (with_reducible exact G.refl _) | (with_reducible assumption) | (with_reducible refine G.drewN ?_ _) | (with_reducible refine G.drew ?_) | (with_reducible refine G.alloc ?_ _) | (with_reducible refine G.setCell ?_ (by first | (with_reducible exact Nat.le_refl _) | (simp; done) | (simp; omega) | omega) _) | (with_reducible refine G.trans ?_ (by assumption)))))
      clear gb1_4
      obtain ⟨c0a, c0b, c0c⟩ := tri_at (n := w.heap.size) (by simp) gb0_5
      obtain ⟨c1a, c1b, c1c⟩ := tri_at (n := w.heap.size + 1) (by simp) gb1_5
      have gw5 : G w w5 := gw4.trans (show G w4 w5 by (repeat' (first | (with_reducible exact G.refl _) | (with_reducible assumption) | (with_reducible refine G.drewN ?_ _) | (with_reducible refine G.drew ?_) | (with_reducible refine G.alloc ?_ _) | (with_reducible refine G.setCell ?_ (by first | (with_reducible exact Nat.le_refl _) | (simp; done) | (simp; omega) | omega) _) | (with_reducible refine G.trans ?_ (by assumption)))))
      go_wp2_with fail
      refine (Fifths_any x b c _ (HT.out.later (by (repeat' (first | (with_reducible exact G.refl _) | (with_reducible assumption) | (with_reducible refine G.drewN ?_ _) | (with_reducible refine G.drew ?_) | (with_reducible refine G.alloc ?_ _) | (with_reducible refine G.setCell ?_ (by first | (with_reducible exact Nat.le_refl _) | (simp; done) | (simp; omega) | omega) _) | (with_reducible refine G.trans ?_ (by assumption)))))).hts (HL.out.later (by (repeat' (first | (with_reducible exact G.refl _) | (with_reducible assumption) | (with_reducible refine G.drewN ?_ _) | (with_reducible refine G.drew ?_) | (with_reducible refine G.alloc ?_ _) | (with_reducible refine G.setCell ?_ (by first | (with_reducible exact Nat.le_refl _) | (simp; done) | (simp; omega) | omega) _) | (with_reducible refine G.trans ?_ (by assumption))))))).mono ?_
      rintro e w6 ⟨rfl, hG6⟩
      rw [er_ok HQ.out, if_pos HQ.out, ← HD.out]
      clear c0a c0b c0c c1a c1b c1c
      have gb0_6 := gb0_5.trans (show G w5 w6 by (repeat' (first | (with_reducible exact G.refl _) | (with_reducible assumption) | (with_reducible refine G.drewN ?_ _) | (with_reducible refine G.drew ?_) | (with_reducible refine G.alloc ?_ _) | (with_reducible refine G.setCell ?_ (by first | (with_reducible exact Nat.le_refl _) | (simp; done) | (simp; omega) | omega) _) | (with_reducible refine G.trans ?_ (by assumption)))))
      clear gb0_5
      have gb1_6 := gb1_5.trans (show G w5 w6 by (repeat' (first | (with_reducible exact G.refl _) | (with_reducible assumption) | (with_reducible refine G.drewN ?_ _) | (with_reducible refine G.drew ?_) | (with_reducible refine G.alloc ?_ _) | (with_reducible refine G.setCell ?_ (by first | (with_reducible exact Nat.le_refl _) | (simp; done) | (simp; omega) | omega) _) | (with_reducible refine G.trans ?_ (by assumption)))))
      clear gb1_5
      obtain ⟨c0a, c0b, c0c⟩ := tri_at (n := w.heap.size) (by simp) gb0_6
      obtain ⟨c1a, c1b, c1c⟩ := tri_at (n := w.heap.size + 1) (by simp) gb1_6
      have gw6 : G w w6 := gw5.trans (show G w5 w6 by (repeat' (first | (with_reducible exact G.refl _) | (with_reducible assumption) | (with_reducible refine G.drewN ?_ _) | (with_reducible refine G.drew ?_) | (with_reducible refine G.alloc ?_ _) | (with_reducible refine G.setCell ?_ (by first | (with_reducible exact Nat.le_refl _) | (simp; done) | (simp; omega) | omega) _) | (with_reducible refine G.trans ?_ (by assumption)))))
      go_wp2_with fail
      refine (known_any _ (HT.out.later (by (repeat' (first | (with_reducible exact G.refl _) | (with_reducible assumption) | (with_reducible refine G.drewN ?_ _) | (with_reducible refine G.drew ?_) | (with_reducible refine G.alloc ?_ _) | (with_reducible refine G.setCell ?_ (by first | (with_reducible exact Nat.le_refl _) | (simp; done) | (simp; omega) | omega) _) | (with_reducible refine G.trans ?_ (by assumption))))))).mono ?_
      rintro e w7 ⟨rfl, hG7⟩
      clear c0a c0b c0c c1a c1b c1c
      have gb0_7 := gb0_6.trans (show G w6 w7 by (repeat' (first | (with_reducible exact G.refl _) | (with_reducible assumption) | (with_reducible refine G.drewN ?_ _) | (with_reducible refine G.drew ?_) | (with_reducible refine G.alloc ?_ _) | (with_reducible refine G.setCell ?_ (by first | (with_reducible exact Nat.le_refl _) | (simp; done) | (simp; omega) | omega) _) | (with_reducible refine G.trans ?_ (by assumption)))))
      clear gb0_6
      have gb1_7 := gb1_6.trans (show G w6 w7 by (repeat' (first | (with_reducible exact G.refl _) | (with_reducible assumption) | (with_reducible refine G.drewN ?_ _) | (with_reducible refine G.drew ?_) | (with_reducible refine G.alloc ?_ _) | (with_reducible refine G.setCell ?_ (by first | (with_reducible exact Nat.le_refl _) | (simp; done) | (simp; omega) | omega) _) | (with_reducible refine G.trans ?_ (by assumption)))))
      clear gb1_6
      obtain ⟨c0a, c0b, c0c⟩ := tri_at (n := w.heap.size) (by simp) gb0_7
      obtain ⟨c1a, c1b, c1c⟩ := tri_at (n := w.heap.size + 1) (by simp) gb1_7
      have gw7 : G w w7 := gw6.trans (show G w6 w7 by (repeat' (first | (with_reducible exact G.refl _) | (with_reducible assumption) | (with_reducible refine G.drewN ?_ _) | (with_reducible refine G.drew ?_) | (with_reducible refine G.alloc ?_ _) | (with_reducible refine G.setCell ?_ (by first | (with_reducible exact Nat.le_refl _) | (simp; done) | (simp; omega) | omega) _) | (with_reducible refine G.trans ?_ (by assumption)))))
      go_wp2_with fail
      all_goals first
        | (exfalso; omega)
        | (go_ret; exact ⟨rfl, by (repeat' (first | (with_reducible exact G.refl _) | (with_reducible assumption) | (with_reducible refine G.drewN ?_ _) | (with_reducible refine G.drew ?_) | (with_reducible refine G.alloc ?_ _) | (with_reducible refine G.setCell ?_ (by first | (with_reducible exact Nat.le_refl _) | (simp; done) | (simp; omega) | omega) _) | (with_reducible refine G.trans ?_ (by assumption))))⟩)

theorem fifths_walk' (s a o x b c : Int) (w : World) (_ : -9223372036854775808 ≤ s) (_ : s ≤ 9223372036854775807) (_ : -9223372036854775808 ≤ a) (_ : a ≤ 9223372036854775807) (_ : -9223372036854775808 ≤ o) (_ : o ≤ 9223372036854775807)
    (_ : -9223372036854775808 ≤ x) (_ : x ≤ 9223372036854775807) (_ : -9223372036854775808 ≤ b) (_ : b ≤ 9223372036854775807) (_ : -9223372036854775808 ≤ c) (_ : c ≤ 9223372036854775807) (hT : Tab w ∧ Plc w) :
    Calls Tryd.prog 11 #[.agg #[.int .i64 s, .int .i64 a, .int .i64 o], .agg #[.int .i64 x, .int .i64 b, .int .i64 c]] w fun e w' => e = .returned (.bool true) ∧ G w w' := fifths_walk s a o x b c w hT

/-! ### the row and the card -/
open Go.ChangeShapes Go.WideShapes Go.ChangeAt Go.RowKit
set_option maxRecDepth 100000 in
theorem pitchFifths_lifted (os : Os) (started : os.Started) (H : Type) (enc : TypeId × Value → H) :
    ReturnsInHanded {} Tryd.checked os 11 .any (fun w args => (Rows.pitchFifthsSpec.pre enc Tryd.prog Tryd.f11 [] false w args ∧ laidMetH Tryd.prog laidP w) ∧ sizedMet enc Tryd.prog Tryd.f11 (OpenSpec.ofChange Rows.pitchFifthsSpec) false w args)
      (Rows.pitchFifthsSpec.post enc Tryd.prog Tryd.f11 false true false false) := by
  refine returnsInHanded_of_change_and (C := Tryd.checked) (X := fun w _ => laidMetH Tryd.prog laidP w) (fun _ _ _ hh h => h.of_heap hh) own started (by kernel_rfl) Tryd.func11
    (ChangeSpec.witness_shaped (enc := enc) (C := Tryd.checked) (os := os) (X := fun w _ => laidMetH Tryd.prog laidP w) false (World.laidAll Tryd.prog os laidP) #[.agg #[.int .i64 0, .int .i64 0, .int .i64 0], .agg #[.int .i64 0, .int .i64 0, .int .i64 0]] 8 (World.laidAll_os _ _ _) (shapedP os) (by kernel_rfl) (by kernel_rfl) (by kernel_rfl) (laid_metP os _)) ?_
  intro W base args ds gs before hval0 hW _ _ hL _
  have hval : ∀ (j : Nat) t v, Tryd.f11.params[j]? = some t → args[j]? = some v → Value.okWide Tryd.prog W .any base t v := hval0
  have hW' := hW
  obtain ⟨p, q, hA0, hV, rfl, hfz, hnd⟩ := hW
  have hA : DataW.TrodAll enc Tryd.prog W 0 (fun _ => true) true Tryd.f11.params.toList args.toList ds p := hA0
  rw [Tryd.params11] at hA hval
  obtain ⟨v0, vs0, d0, ds0, p0, q0, hargs, rfl, rfl, h0, r0⟩ := trodAll_cons hA
  obtain ⟨v1, vs1, d1, ds1, p1, q1, rfl, rfl, rfl, h1, r1⟩ := trodAll_cons r0
  obtain ⟨rfl, rfl, rfl⟩ := trodAll_nil r1
  obtain rfl : args = #[v0, v1] := by cases args; simp_all
  obtain ⟨rfl, rfl⟩ := trodVars_none hV
  obtain ⟨a0, b0, c0, rfl, rfl, rfl, w0, u0, y0⟩ := open_pitch (hval 0 23 v0 rfl rfl) h0
  obtain ⟨al0, ah0⟩ := bounds_i64 w0
  obtain ⟨bl0, bh0⟩ := bounds_i64 u0
  obtain ⟨cl0, ch0⟩ := bounds_i64 y0
  obtain ⟨a1, b1, c1, rfl, rfl, rfl, w1, u1, y1⟩ := open_pitch (hval 1 23 v1 rfl rfl) h1
  obtain ⟨al1, ah1⟩ := bounds_i64 w1
  obtain ⟨bl1, bh1⟩ := bounds_i64 u1
  obtain ⟨cl1, ch1⟩ := bounds_i64 y1
  clear hA0 hval0
  simp only [List.append_nil] at hW'
  refine (fifths_walk' a0 b0 c0 a1 b1 c1 W al0 ah0 bl0 bh0 cl0 ch0 al1 ah1 bl1 bh1 cl1 ch1  (tab_of_laidP hL)).mono fun e W' ⟨he, hg⟩ => ?_
  subst he
  exact ⟨_, rfl, _, _, _, [], [], [], hW', (trodAll_cons_mk (shut_bool Tryd.underlying4 _) trodAll_mk0), (trodAll_cons_mk (shut_pitch w0 u0 y0) (trodAll_cons_mk (shut_pitch w1 u1 y1) trodAll_mk0)), rfl, Below.frame hg _, fun h => by cases h⟩

theorem pitchFifths_holds : Rows.PitchFifthsSaid :=
  OpenClaim.holds_of_wide 11 Tryd.f11 rfl rfl rfl rfl rfl rfl rfl ⟨rfl, rfl, rfl, rfl, rfl⟩ rfl rfl rfl rfl rfl (by kernel_rfl) Tryd.func11 (by kernel_rfl)
    (of_decide_eq_true (by kernel_rfl)) (by unfold Func.isWrapper; first | (rw [if_pos (by decide +kernel)]; kernel_rfl) | (rw [if_neg (by decide +kernel)]; exact ⟨rfl, rfl⟩))
    (fun os started H enc _ => pitchFifths_lifted os started H enc)

theorem pitchFifths_card : Rows.PitchFifthsCardSaid :=
  Claim7.holds_tied_plain_at .later [] [.data, .data, .data, .data, .sentinel, .sentinel, .data, .data, .data, .pinned] true (true, "d397597ffcaddd10c3aead99d9a1c2c62e92eb3a05e458798d7d01250ca48297") true
    pitchFifths_holds (fun _ h => by cases h) (by kernel_rfl) (fun _ h => by cases h) pitchFifths_row_tie rfl ⟨rfl, rfl⟩ (by kernel_rfl) rfl
    (fun f fn hf hfn => by
      obtain rfl : f = 11 := Option.some.inj ((show Tryd.prog.funcNamed "hemiola/hemiolalaw05.PitchFifths" = some 11 by kernel_rfl).symm.trans hf) |>.symm
      obtain rfl : fn = Tryd.f11 := (Option.some.inj (Tryd.func11.symm.trans hfn)).symm
      exact ⟨by kernel_rfl, fun j t ht => by
        rw [Tryd.params11] at ht
        have hm : t ∈ [23, 23] := by simpa using Array.mem_of_getElem? ht
        have hall : ([23, 23].all fun u => !Tryd.prog.wantsStandIn u) = true := by kernel_rfl
        exact (show Tryd.prog.wantsStandIn t = false by simpa using List.all_eq_true.1 hall t hm)⟩)
    (by kernel_rfl)
#print axioms pitchFifths_card

end Go.Proofs.YtfmjjbcmgkhgaaaDoor
